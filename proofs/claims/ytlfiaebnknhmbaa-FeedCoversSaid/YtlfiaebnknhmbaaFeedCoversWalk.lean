/- The walk of hopperlaw14.FeedCovers. -/
import Derived.Test.YtlfiaebnknhmbaaFeedM
namespace Go.Proofs.Ytlfiaebnknhmbaa.feedCovers
open Go.RowKit Sx feed
set_option linter.unusedVariables false
set_option linter.unusedSimpArgs false
theorem atN {w : World} {a : Option Addr} {n : Nat} {xs : List Value} (h : At w (pt a n) xs) : ∀ φ ∈ [rowF (pt none 0) (cellsE []), rowF (pt a n) xs], ∀ g, φ.g = some g → ∃ o, w.heap[g]? = some o ∧ φ.holds o := at2 at_none h
theorem stV_lag {k : Int} {t : List Ev} (h : stV (lag k) t ≠ 0) : stV (lag k) t = k.toNat ∧ 1 ≤ k ∧ k ≤ t.length := by
  have e : stV (lag k) t = if k < 1 ∨ (t.length : Int) < k then 0 else k.toNat := by
    unfold stV
    show (if (4 : Int) = 4 then (if k < 1 ∨ (t.length : Int) < k then 0 else k.toNat) else _) = _
    rw [if_pos rfl]
  rw [e] at h ⊢
  by_cases hc : k < 1 ∨ (t.length : Int) < k
  · rw [if_pos hc] at h; exact absurd rfl h
  · rw [if_neg hc]; exact ⟨rfl, by omega, by omega⟩
theorem covers_more (k : Int) (y : Ev) : ∀ (p : List Ev) {t : List Ev}, coversV (p ++ [lag k]) t = true → coversV (p ++ [lag (k + 1)]) (t ++ [y]) = true
  | [], t, h => by
    rw [List.nil_append, coversV_cons] at h
    by_cases hs : stV (lag k) t = 0
    · rw [if_pos hs] at h; cases h
    · rw [if_neg hs] at h
      obtain ⟨e1, e2, e3⟩ := stV_lag hs
      have h1 : (t.drop (stV (lag k) t)).length = 0 := by simpa [coversV] using h
      rw [List.length_drop, e1] at h1
      have h2 : k + 1 = ((t ++ [y]).length : Nat) := by rw [List.length_append]; simp; omega
      rw [List.nil_append, h2, covers_lag]
      simp
  | x :: p, t, h => by
    rw [List.cons_append, coversV_cons] at h ⊢
    by_cases hs : stV x t = 0
    · rw [if_pos hs] at h; cases h
    · rw [if_neg hs] at h
      rw [stV_more hs, if_neg hs, List.drop_append_of_le_length (stV_le x t)]
      exact covers_more k y p h
structure Inv (room : Int) (k : Nat) (it : List Ev) (lo : Int) (told rd : List Ev) (full : Bool) : Prop where
  i1 : (it.length : Int) ≤ room
  i2 : it.length ≤ k
  l0 : 0 ≤ lo
  l1 : lo ≤ k
  t1 : told.length ≤ k
  r1 : rd.length ≤ k
  cv : coversV (rd ++ allV it lo) told = true
  fm : ∀ x ∈ rd ++ it, Fits x.m
  fu : full = false → lo = 0 ∧ rd ++ it = told
theorem inv_read0 {room : Int} {k : Nat} {it : List Ev} {lo : Int} {told rd : List Ev} {full : Bool} (h : Inv room k it lo told rd full) (hk : k ≤ 100) (he : errV it lo = 0) : Inv room (k + 1) it.tail (lostV it lo) told (rd ++ [hdV it lo]) full := by
  obtain ⟨e1, e2, e3⟩ := err_zero he rd
  obtain ⟨i1, i2, l0, l1, t1, r1, cv, fm, fu⟩ := h
  have hlv : lostV it lo = lo ∨ lostV it lo = 0 := by
    cases it with
    | cons x it => exact .inl rfl
    | nil => by_cases h : 0 < lo; exact .inr (if_pos h); exact .inl (if_neg h)
  have htl : it.tail.length ≤ it.length := by rw [List.length_tail]; omega
  refine ⟨by omega, by omega, by omega, by omega, by omega, by rw [List.length_append]; simp; omega, by rw [e1]; exact cv, fun x hx => ?_, fun hf => ?_⟩
  · rcases List.mem_append.1 hx with hx | hx
    · rcases List.mem_append.1 hx with hx | hx
      · exact fm x (List.mem_append.2 (.inl hx))
      · simp only [List.mem_singleton] at hx
        subst hx
        cases it with
        | cons x it => exact fm x (List.mem_append.2 (.inr List.mem_cons_self))
        | nil =>
          unfold hdV
          simp only []
          split
          · show Fits lo; unfold Fits; omega
          · show Fits 0; unfold Fits; decide
    · exact fm x (List.mem_append.2 (.inr (List.mem_of_mem_tail hx)))
  · obtain ⟨rfl, h2⟩ := fu hf
    cases it with
    | cons x it => exact ⟨rfl, by rw [← h2]; simp [hdV]⟩
    | nil => simp [errV] at he
theorem inv_read7 {room : Int} {k : Nat} {it : List Ev} {lo : Int} {told rd : List Ev} {full : Bool} (h : Inv room k it lo told rd full) (he : errV it lo ≠ 0) : it = [] ∧ lo = 0 ∧ Inv room (k + 1) [] 0 told rd full := by
  obtain ⟨e1, e2, e3, e4, e5⟩ := err_seven he
  obtain ⟨i1, i2, l0, l1, t1, r1, cv, fm, fu⟩ := h
  subst e1
  obtain rfl : lo = 0 := by omega
  exact ⟨rfl, rfl, i1, by omega, l0, by omega, by omega, by omega, cv, fm, fu⟩
theorem inv_tell {room : Int} {k : Nat} {it : List Ev} {lo : Int} {told rd : List Ev} {full : Bool} (h : Inv room k it lo told rd full) (hk : k ≤ 100) (v : Int) {it' : List Ev} {lo' : Int} (ht : tellV room (it, lo) [EV v] = (it', lo')) : Inv room (k + 1) it' lo' (told ++ [EV v]) rd (full || decide (lo' > 0)) := by
  obtain ⟨i1, i2, l0, l1, t1, r1, cv, fm, fu⟩ := h
  have ht : tell1 room (it, lo) (EV v) = (it', lo') := ht
  have hfe : Fits (EV v).m := by show Fits 0; unfold Fits; decide
  have hlt : (told ++ [EV v]).length = told.length + 1 := by simp
  have hz : allV it 0 = it := by unfold allV tailV; simp
  unfold tell1 at ht
  by_cases hc : lo = 0 ∧ (it.length : Int) < room
  · rw [if_pos hc] at ht
    cases ht
    obtain ⟨rfl, hr⟩ := hc
    have hz2 : allV (it ++ [EV v]) 0 = it ++ [EV v] := by unfold allV tailV; simp
    have hs : coversV [EV v] [EV v] = true := by
      have : stV (EV v) [EV v] = 1 := by unfold stV; rw [if_neg (by show ¬ (1 : Int) = 4; decide)]; simp [evB_refl]
      rw [coversV_cons, this]
      rfl
    refine ⟨by simp; omega, by simp; omega, by omega, by omega, by omega, by omega, ?_, fun x hx => ?_, fun hf => ?_⟩
    · have := covers_split (rd ++ allV it 0) [EV v] [EV v] cv
      rw [hs, hz, List.append_assoc] at this
      rw [hz2]
      exact this
    · rw [← List.append_assoc] at hx
      rcases List.mem_append.1 hx with hx | hx
      · exact fm x hx
      · simp only [List.mem_singleton] at hx
        subst hx
        exact hfe
    · obtain ⟨_, h2⟩ := fu (by simpa using hf)
      exact ⟨rfl, by rw [← List.append_assoc, h2]⟩
  · rw [if_neg hc] at ht
    cases ht
    have hm : min lo 1099511627775 = lo := by omega
    simp only [hm]
    refine ⟨i1, by omega, by omega, by omega, by omega, by omega, ?_, fm, fun hf => ?_⟩
    · have hz2 : allV it (lo + 1) = it ++ [lag (lo + 1)] := by unfold allV tailV; rw [if_pos (by omega)]
      rw [hz2]
      by_cases hl : lo = 0
      · subst hl
        have := covers_split (rd ++ allV it 0) [lag 1] [EV v] cv
        rw [hz, List.append_assoc] at this
        have h2 := covers_lag [EV v]
        exact this.trans (h2.trans (by simp))
      · have h3 : allV it lo = it ++ [lag lo] := by unfold allV tailV; rw [if_pos (by omega)]
        rw [h3, ← List.append_assoc] at cv
        rw [← List.append_assoc]
        exact covers_more lo (EV v) (rd ++ it) cv
    · simp only [Bool.or_eq_false_iff, decide_eq_false_iff_not] at hf
      omega
abbrev St := Nat × Option Addr × Nat × List Ev × Int × List Ev × List Ev × Bool
set_option maxHeartbeats 4000000 in
set_option maxRecDepth 100000 in
theorem walk (room : Int) (a : Option Addr) (n c : Nat) (l : List Int) (w : World) (h3 : Fits room) (h : Sl a n c ∧ n = l.length ∧ At w (pt a n) (l.map (Value.int .i64)) ∧ ∀ z ∈ l, Fits z) : Calls Try.prog 4 (List.toArray [.int .i64 room, .slice a n c]) w fun e w' =>  e = .returned (.bool true) ∧ Below w.heap.size w w' := by
  obtain ⟨hs, hn, hrow, hft⟩ := h
  have hn63 := hs.le
  have hf0 : Fits 0 := by unfold Fits; decide
  refine calls_of_exec (env_ok.keeps.how []) Try.func4 rfl [(18, (lineT [0, 1, 2, 3, 4, 5, 6, 7] [8], []))] (schedQ_ok _ _ (by kernel_rfl)) [rowF (pt none 0) (cellsE []), rowF (pt a n) (l.map (Value.int .i64))] (atN hrow) ?_
  by_cases hr : 1 ≤ room ∧ room ≤ 16
  · have hN : newV room = (room, 0) := if_pos hr
    (conv => arg 5; whnf)
    refine meetc (f := 11) (v := .tuple #[fd room none 0 0 0, .int .i64 0]) rfl (by kernel_rfl) (fun β ρ w' hM' => newL room room 0 w' hN) ?_
    (conv => arg 5; whnf)
    refine wp_g0 (fun g2 => ?_) (fun g2 => ?_)
    · have hl : n ≤ 100 := by simp at g2; omega
      (conv => arg 5; whnf)
      refine loop_nil 7 36 8 rfl ?_
      (conv => arg 5; whnf)
      refine loop_nil 8 36 8 rfl ?_
      (conv => arg 5; whnf)
      refine loop_rule (env_ok.keeps.how []) [(18, (lineT [0, 1, 2, 3, 4, 5, 6, 7] [8], []))] (schedQ_ok _ _ (by kernel_rfl)) (fun q : St => q.1 ≤ n ∧ Sl q.2.1 q.2.2.2.1.length q.2.2.1 ∧ Inv room q.1 q.2.2.2.1 q.2.2.2.2.1 q.2.2.2.2.2.1 q.2.2.2.2.2.2.1 q.2.2.2.2.2.2.2) (fun q => (⟨[some ([.v (.int .i64 room), .v (.slice q.2.1 q.2.2.2.1.length q.2.2.1), .v (.int .i64 q.2.2.2.2.1)], 27)], [some ⟨36, 8, q.2.2.2.2.2.1.length, cellsE q.2.2.2.2.2.1⟩, some ⟨36, 8, q.2.2.2.2.2.2.1.length, cellsE q.2.2.2.2.2.2.1⟩], [rowF (pt q.2.1 q.2.2.2.1.length) (cellsE q.2.2.2.1), rowF (pt a n) (l.map (Value.int .i64))]⟩, sl 131 [(0, .v (.int .i64 room)), (1, .v (.slice a n c)), (4, .v (.bool false)), (5, .p 0 0), (6, .v (.int .i64 0)), (7, .r 0), (8, .r 1), (9, .v (.bool q.2.2.2.2.2.2.2)), (10, .v (.int .i64 (q.1 : Nat)))])) (fun q => n - q.1) (0, none, 0, [], 0, [], [], false) ⟨Nat.zero_le _, sl_nil, ⟨by simp; omega, Nat.le_refl _, Int.le_refl _, Int.le_refl _, Nat.le_refl _, Nat.le_refl _, rfl, by simp, fun _ => ⟨rfl, rfl⟩⟩⟩ ⟨by repeat' first | exact trivial | refine ⟨.inl rfl, ?_⟩ | refine ⟨.inr rfl, ?_⟩, ⟨by repeat' first | exact trivial | refine ⟨.inl rfl, ?_⟩ | refine ⟨.inr rfl, ?_⟩, by repeat' first | exact trivial | refine ⟨.inl rfl, ?_⟩ | refine ⟨.inr rfl, ?_⟩, fun φ h => by simp only [List.mem_cons, List.not_mem_nil, or_false] at h; rcases h with rfl | rfl; exact .head _; exact .tail _ (.head _)⟩, rfl⟩ ?_
      rintro ⟨k, fa, fc, it, lo, told, rd, full⟩ ⟨hk, hfs, hI⟩
      simp only [] at hk hfs hI
      (conv => arg 5; whnf)
      refine wp_br (fun g3 => ?_) (fun g3 => ?_)
      · have hlt : k < n := by simp at g3; omega
        have hk100 : k ≤ 100 := by omega
        have hx : l[k]? = some l[k] := List.getElem?_eq_getElem (by omega)
        have hfx := hft _ (List.mem_of_getElem? hx)
        generalize l[k] = v at hx hfx
        have hxv : (l.map (Value.int .i64))[k]? = some (.int .i64 v) := by rw [List.getElem?_map, hx]; rfl
        have hit := hI.i2
        have htd := hI.t1
        have hrd := hI.r1
        have hflo : Fits lo := by have := hI.l0; have := hI.l1; unfold Fits; omega
        (conv => arg 5; whnf)
        refine wp_must ⟨by omega, by omega, hs.some hlt⟩ ?_
        (conv => arg 5; whnf)
        refine readP (.int .i64 v) rfl (.tail _ (.head _)) hlt (hs.some hlt) hxv (j := k) (by cases a <;> simp) ?_
        (conv => arg 5; whnf)
        refine wp_br (fun g4 => ?_) (fun g4 => ?_)
        · have htl : it.length - 1 = it.tail.length := List.length_tail.symm
          by_cases he : errV it lo = 0
          · have hI2 := inv_read0 hI hk100 he
            have R1 := fun (w : World) hr => readL room lo fa it.length fc it w hfs rfl (by omega) it.tail.length it.tail (lostV it lo) 0 (hdV it lo) htl rfl rfl rfl he hr
            generalize lostV it lo = lo2 at *
            generalize hdV it lo = x at *
            generalize it.tail = it2 at *
            have hc1 : cellsE (rd ++ [x]) = cellsE rd ++ x.cells := by rw [cellsE_append]; simp [cellsE]
            have hl1 : (rd ++ [x]).length = rd.length + 1 := by simp
            (conv => arg 5; whnf)
            refine meet1F (f := 13) (n := it2.length) (v := fun a1 c1 => .tuple #[fd room a1 it2.length c1 lo2, x.val, .int .i64 0]) (xs := cellsE it2) rfl (by kernel_rfl) (fun β ρ w' hM' => R1 w' (hM'.at_ (.head _))) (fun p c_p h_p f_p => ?_)
            (conv => arg 5; whnf)
            refine wp_must ⟨by show rd.length + 1 ≤ maxLen; unfold maxLen; omega, by show (rd.length + 1) * 72 ≤ _; omega⟩ ?_
            (conv => arg 5; whnf)
            refine wp_must ⟨by omega, by omega⟩ ?_
            (conv => arg 5; whnf)
            refine wp_end ⟨(k + 1, p, c_p, it2, lo2, told, rd ++ [x], full), ⟨hlt, h_p, hI2⟩, ⟨by repeat' first | exact trivial | refine ⟨.inl rfl, ?_⟩ | refine ⟨.inr rfl, ?_⟩, ⟨by repeat' first | exact trivial | refine ⟨.inl rfl, ?_⟩ | refine ⟨.inr rfl, ?_⟩, by show LeO (α := Row) _ [some ⟨36, 8, told.length, cellsE told⟩, some ⟨36, 8, (rd ++ [x]).length, cellsE (rd ++ [x])⟩]; simp only [hc1, hl1, Ev.cells]; repeat' first | exact trivial | refine ⟨.inl rfl, ?_⟩ | refine ⟨.inr rfl, ?_⟩, fun φ h => by simp only [List.mem_cons, List.not_mem_nil, or_false] at h; rcases h with rfl | rfl; exact (.head _); exact (.tail _ (.tail _ (.head _)))⟩, rfl⟩, by show n - (k + 1) < n - k; omega⟩
          · obtain ⟨rfl, rfl, hI2⟩ := inv_read7 hI he
            have R1 := fun (w : World) hr => readL room 0 fa 0 fc [] w hfs rfl (by decide) 0 [] 0 7 ev0 rfl rfl rfl rfl rfl hr
            (conv => arg 5; whnf)
            refine meet1F (f := 13) (n := 0) (v := fun a1 c1 => .tuple #[fd room a1 0 c1 0, ev0.val, .int .i64 7]) (xs := cellsE []) rfl (by kernel_rfl) (fun β ρ w' hM' => R1 w' (hM'.at_ (.head _))) (fun p c_p h_p f_p => ?_)
            (conv => arg 5; whnf)
            refine wp_must ⟨by omega, by omega⟩ ?_
            (conv => arg 5; whnf)
            refine wp_end ⟨(k + 1, p, c_p, [], 0, told, rd, full), ⟨hlt, h_p, hI2⟩, ⟨by repeat' first | exact trivial | refine ⟨.inl rfl, ?_⟩ | refine ⟨.inr rfl, ?_⟩, ⟨by repeat' first | exact trivial | refine ⟨.inl rfl, ?_⟩ | refine ⟨.inr rfl, ?_⟩, by repeat' first | exact trivial | refine ⟨.inl rfl, ?_⟩ | refine ⟨.inr rfl, ?_⟩, fun φ h => by simp only [List.mem_cons, List.not_mem_nil, or_false] at h; rcases h with rfl | rfl; exact (.head _); exact (.tail _ (.tail _ (.head _)))⟩, rfl⟩, by show n - (k + 1) < n - k; omega⟩
        · obtain ⟨it2, lo2, hT⟩ : ∃ it2 lo2, tellV room (it, lo) [EV v] = (it2, lo2) := ⟨_, _, rfl⟩
          have hI2 := inv_tell hI hk100 v hT
          have hc1 : cellsE (told ++ [EV v]) = cellsE told ++ (EV v).cells := by rw [cellsE_append]; simp [cellsE]
          have hl1 : (told ++ [EV v]).length = told.length + 1 := by simp
          (conv => arg 5; whnf)
          refine wp_must ⟨by omega, by omega, hs.some hlt⟩ ?_
          (conv => arg 5; whnf)
          refine readP (.int .i64 v) rfl (.tail _ (.head _)) hlt (hs.some hlt) hxv (j := k) (by cases a <;> simp) ?_
          (conv => arg 5; whnf)
          refine meetc (f := 23) (v := (EV v).val) rfl (by kernel_rfl) (fun β ρ w' hM' => event_ v w') ?_
          (conv => arg 5; whnf)
          refine wp_must ⟨by show told.length + 1 ≤ maxLen; unfold maxLen; omega, by show (told.length + 1) * 72 ≤ _; omega⟩ ?_
          (conv => arg 5; whnf)
          refine wp_must ⟨by omega, by omega, hs.some hlt⟩ ?_
          (conv => arg 5; whnf)
          refine readP (.int .i64 v) rfl (.tail _ (.head _)) hlt (hs.some hlt) hxv (j := k) (by cases a <;> simp) ?_
          (conv => arg 5; whnf)
          refine meetc (f := 23) (v := (EV v).val) rfl (by kernel_rfl) (fun β ρ w' hM' => event_ v w') ?_
          (conv => arg 5; whnf)
          refine wp_share fun u c_u h_u f_u => ?_
          (conv => arg 5; whnf)
          refine meet1F (f := 19) (n := it2.length) (v := fun a1 c1 => fd room a1 it2.length c1 lo2) (xs := cellsE it2) rfl (by kernel_rfl) (fun β ρ w' hM' => tellL room lo fa it.length fc it u 1 c_u [EV v] w' hfs rfl h_u rfl (by omega) (by simp) hflo it2.length it2 lo2 rfl hT (hM'.at_ (.tail _ (.head _))) ((hM'.at_ (.head _)).pt _)) (fun p c_p h_p f_p => ?_)
          (conv => arg 5; whnf)
          refine wp_g0 (fun g5 => ?_) (fun g5 => ?_)
          · subst g5
            (conv => arg 5; whnf)
            refine wp_must ⟨by omega, by omega⟩ ?_
            (conv => arg 5; whnf)
            refine wp_end ⟨(k + 1, p, c_p, it2, lo2, told ++ [EV v], rd, decide (lo2 > 0)), ⟨hlt, h_p, hI2⟩, ⟨by repeat' first | exact trivial | refine ⟨.inl rfl, ?_⟩ | refine ⟨.inr rfl, ?_⟩, ⟨by repeat' first | exact trivial | refine ⟨.inl rfl, ?_⟩ | refine ⟨.inr rfl, ?_⟩, by show LeO (α := Row) _ [some ⟨36, 8, (told ++ [EV v]).length, cellsE (told ++ [EV v])⟩, some ⟨36, 8, rd.length, cellsE rd⟩]; simp only [hc1, hl1]; repeat' first | exact trivial | refine ⟨.inl rfl, ?_⟩ | refine ⟨.inr rfl, ?_⟩, fun φ h => by simp only [List.mem_cons, List.not_mem_nil, or_false] at h; rcases h with rfl | rfl; exact (.head _); exact (.tail _ (.tail _ (.tail _ (.head _))))⟩, rfl⟩, by show n - (k + 1) < n - k; omega⟩
          · subst g5
            (conv => arg 5; whnf)
            refine wp_must ⟨by omega, by omega⟩ ?_
            (conv => arg 5; whnf)
            refine wp_end ⟨(k + 1, p, c_p, it2, lo2, told ++ [EV v], rd, true), ⟨hlt, h_p, hI2⟩, ⟨by repeat' first | exact trivial | refine ⟨.inl rfl, ?_⟩ | refine ⟨.inr rfl, ?_⟩, ⟨by repeat' first | exact trivial | refine ⟨.inl rfl, ?_⟩ | refine ⟨.inr rfl, ?_⟩, by show LeO (α := Row) _ [some ⟨36, 8, (told ++ [EV v]).length, cellsE (told ++ [EV v])⟩, some ⟨36, 8, rd.length, cellsE rd⟩]; simp only [hc1, hl1]; repeat' first | exact trivial | refine ⟨.inl rfl, ?_⟩ | refine ⟨.inr rfl, ?_⟩, fun φ h => by simp only [List.mem_cons, List.not_mem_nil, or_false] at h; rcases h with rfl | rfl; exact (.head _); exact (.tail _ (.tail _ (.tail _ (.head _))))⟩, rfl⟩, by show n - (k + 1) < n - k; omega⟩
      · obtain ⟨i1, i2, l0, l1, t1, r1, cv, fm, fu⟩ := hI
        have htl := length_tailV lo
        have hel : endV lo = 0 := by unfold endV; split <;> omega
        have hflo : Fits lo := by unfold Fits; omega
        have hal : (allV it lo).length ≤ 101 := by unfold allV; rw [List.length_append]; have := tailV_le lo; omega
        have hmm : ∀ x ∈ rd ++ allV it lo, Fits x.m := fun x hx => by
          rcases List.mem_append.1 hx with hx | hx
          · exact fm x (List.mem_append.2 (.inl hx))
          · rcases List.mem_append.1 hx with hx | hx
            · exact fm x (List.mem_append.2 (.inr hx))
            · unfold tailV at hx
              split at hx
              · simp only [List.mem_singleton] at hx; subst hx; exact hflo
              · cases hx
        have hfu : full = false → rd ++ allV it lo = told := fun h => by obtain ⟨rfl, h2⟩ := fu h; rw [← h2]; unfold allV tailV; simp
        obtain ⟨al, hal2⟩ : ∃ al, allV it lo = al := ⟨_, rfl⟩
        have A1 := fun (w : World) hr => allL room lo fa it.length fc it w hfs rfl (by omega) al.length al 0 (by rw [hal2]) hal2 hel hr
        rw [hal2] at cv hmm hfu hal
        have hca : cellsE (rd ++ al) = cellsE rd ++ cellsE al := cellsE_append _ _
        have hla : rd.length + al.length = (rd ++ al).length := by simp
        (conv => arg 5; whnf)
        refine wp_g0 (fun _ => ?_) (fun h => by simp at h <;> omega)
        (conv => arg 5; whnf)
        refine wp_br (fun h => by simp at h <;> omega) (fun _ => ?_)
        (conv => arg 5; whnf)
        refine meet2' (f := 15) (n := 0) (n2 := al.length) (v := fun a1 c1 a2 c2 => .tuple #[fd room a1 0 c1 0, .slice a2 al.length c2]) (xs := cellsE []) (ys := cellsE al) rfl (by kernel_rfl) (fun β ρ w' hM' => A1 w' (hM'.at_ (.head _))) (fun y c_y u c_u h_y h_u => ?_)
        (conv => arg 5; whnf)
        refine rowsE (l := al) rfl (by exact .tail _ (.head _)) ?_
        (conv => arg 5; whnf)
        refine wp_must ⟨by show rd.length + al.length ≤ maxLen; unfold maxLen; omega, by show (rd.length + al.length) * 72 ≤ _; omega, fun h => ⟨(h_u.2.2 h).1, (h_u.2.2 h).2⟩⟩ ?_
        (conv => arg 5; whnf)
        refine wp_share fun p c_p h_p f_p => ?_
        (conv => arg 5; whnf)
        refine wp_share fun t c_t h_t f_t => ?_
        (conv => arg 5; whnf)
        refine meetc (f := 21) (v := .bool true) rfl (by kernel_rfl) (fun β ρ w' hM' => coversL p (rd.length + al.length) c_p (rd ++ al) t told.length c_t told w' h_p hla h_t rfl hmm true cv (by rw [hca]; exact (hM'.at_ (.tail _ (.head _))).pt _) ((hM'.at_ (.head _)).pt _)) ?_
        (conv => arg 5; whnf)
        refine meetc (f := 22) (v := .bool true) rfl (by kernel_rfl) (fun β ρ w' hM' => rcoversL p (rd.length + al.length) c_p (rd ++ al) t told.length c_t told w' h_p hla h_t rfl hmm true cv (by rw [hca]; exact (hM'.at_ (.tail _ (.head _))).pt _) ((hM'.at_ (.head _)).pt _)) ?_
        (conv => arg 5; whnf)
        refine wp_g0 (fun g6 => ?_) (fun g6 => ?_)
        · have hq := hfu g6
          have hll : rd.length + al.length = told.length := by rw [hla, hq]
          (conv => arg 5; whnf)
          refine meetc (f := 18) (v := .bool true) rfl (by kernel_rfl) (fun β ρ w' hM' => (by rw [hll] at h_p ⊢; exact events p told.length c_p told t c_t w' h_p rfl (by rw [← hq, hca]; exact (hM'.at_ (.tail _ (.head _))).pt _) h_t ((hM'.at_ (.head _)).pt _))) ?_
          (conv => arg 5; whnf)
          refine meetc (f := 10) (v := .bool true) rfl (by kernel_rfl) (fun β ρ w' hM' => live w') ?_
          (conv => arg 5; whnf)
          exact wp_back fun β ρ w' hM' => ⟨rfl, hM'.below⟩
        · (conv => arg 5; whnf)
          refine meetc (f := 10) (v := .bool true) rfl (by kernel_rfl) (fun β ρ w' hM' => live w') ?_
          (conv => arg 5; whnf)
          exact wp_back fun β ρ w' hM' => ⟨rfl, hM'.below⟩
    · (conv => arg 5; whnf)
      refine meetc (f := 10) (v := .bool true) rfl (by kernel_rfl) (fun β ρ w' hM' => live w') ?_
      (conv => arg 5; whnf)
      exact wp_back fun β ρ w' hM' => ⟨rfl, hM'.below⟩
  · have hN : newV room = (0, 1) := if_neg hr
    (conv => arg 5; whnf)
    refine meetc (f := 11) (v := .tuple #[fd 0 none 0 0 0, .int .i64 1]) rfl (by kernel_rfl) (fun β ρ w' hM' => newL room 0 1 w' hN) ?_
    (conv => arg 5; whnf)
    refine wp_g0 (fun _ => ?_) (fun _ => ?_)
    · (conv => arg 5; whnf)
      refine meetc (f := 10) (v := .bool true) rfl (by kernel_rfl) (fun β ρ w' hM' => live w') ?_
      (conv => arg 5; whnf)
      exact wp_back fun β ρ w' hM' => ⟨rfl, hM'.below⟩
    · (conv => arg 5; whnf)
      refine meetc (f := 10) (v := .bool true) rfl (by kernel_rfl) (fun β ρ w' hM' => live w') ?_
      (conv => arg 5; whnf)
      exact wp_back fun β ρ w' hM' => ⟨rfl, hM'.below⟩
end Go.Proofs.Ytlfiaebnknhmbaa.feedCovers
