/- A row of words of our own, looked at from behind its first ones (s = s[1:]), and appended to. -/
import Derived.Test.YtoaohkllkooibaaSxA
import Derived.Test.YtoaohkllkooibaaMeet
namespace Go.Proofs.Ytoaohkllkooibaa.Sx
open Go.RowKit
set_option linter.unusedVariables false
set_option linter.unusedSimpArgs false
section
variable {P : Program} {W : World} {G : Option Nat} {Q : Ending → World → Prop} {ds : List Deferred}
/-- What a block holds, of which the first are known. -/
def wF (g : Option Nat) (e : TypeId) (C : Nat) (ys : List Value) : Fact := ⟨g, fun o => ∃ cur, o = .cells cur e (0, 0) ∧ cur.size = C ∧ cur.toList.take ys.length = ys⟩
/-- Where the row lies, that is the block from t on. -/
def WV (base : Nat) (a : Option Addr) (c t N C : Nat) : Prop := t ≤ N ∧ N ≤ C ∧ C ≤ maxLen ∧ c = C - t ∧ (a = none → C = 0) ∧ ∀ ad, a = some ad → base ≤ ad.block ∧ (t < C → ad = ⟨ad.block, t, none⟩)
theorem wv_nil {base : Nat} : WV base none 0 0 0 0 := ⟨Nat.le_refl _, Nat.le_refl _, by unfold maxLen; omega, rfl, fun _ => rfl, fun _ h => (by cases h)⟩
theorem wf_at {w : World} {base : Nat} {a : Option Addr} {c t C : Nat} {e : TypeId} {ys : List Value} (hV : WV base a c t ys.length C) (hF : ∀ g, a.map (·.block) = some g → ∃ o, w.heap[g]? = some o ∧ (wF (a.map (·.block)) e C ys).holds o) {ad : Addr} (ha : a = some ad) {j : Nat} {u : Value} (hj : (ys.drop t)[j]? = some u) : w.cell? (ad.add j) = some u := by
  subst ha
  obtain ⟨o, ho, cur, rfl, hsz, htk⟩ := hF ad.block rfl
  obtain ⟨h1, h2, h3, h4, h5, h6⟩ := hV
  rw [List.getElem?_drop] at hj
  have hlt : t + j < ys.length := by
    rcases Nat.lt_or_ge (t + j) ys.length with h | h
    · exact h
    · rw [List.getElem?_eq_none h] at hj; cases hj
  have hoff := (h6 ad rfl).2 (by omega)
  have hcur : cur[t + j]? = some u := by
    rw [← htk, List.getElem?_take, if_pos (by simpa using hlt)] at hj
    simpa using hj
  rw [hoff]
  unfold Addr.add World.cell?
  by_cases hj0 : j = 0
  · subst hj0; simp [ho]; simpa using hcur
  · simp [hj0, ho, hcur]
theorem run_append_roomW (w : World) (t ty e : TypeId) (i : TypeInfo) (ht : P.underlying t = some (.slice e)) (hi : P.info? e = some i) (h1i : i.size = 1)
    (g o sLen sCap : Nat) (cur : Array Value) (hg : w.heap[g]? = some (.cells cur e (0, 0)))
    (a : Addr) (c0 : Nat) (u : Value) (hnews : w.cell? a = some u) (h1 : u.oneCell' = true)
    (hroom : sLen + 1 ≤ sCap) (hfit : o + sLen + 1 ≤ cur.size) :
    (Builtin.append_ #[t, t] ty #[.slice (some ⟨g, o, none⟩) sLen sCap, .slice (some a) 1 c0]).run P w =
      .ok (.slice (some ⟨g, o, none⟩) (sLen + 1) sCap) (w.setRow g (cur.toList.take (o + sLen) ++ [u] ++ cur.toList.drop (o + sLen + 1)).toArray) := by
  have hf := run_firstCells_some (P := P) w i.size 1 a 1 c0 [u] (by simp [h1i]) (fun j v hj => by
    match j, hj with
    | 0, hj => simp at hj; subst hj; simpa [Addr.add] using hnews)
  have hst := run_storeCells_at P g (o + sLen) e [u] 0 cur w hg (by simpa using hfit) (by simpa using h1)
  simp only [Nat.add_zero] at hst
  have hadd : (⟨g, o, none⟩ : Addr).add (sLen * i.size) = ⟨g, o + sLen, none⟩ := by rw [h1i]; unfold Addr.add; split <;> simp_all
  simp [Builtin.append_, run_underlying ht, sizeOf, typeInfo, hi, Builtin.lenOf, hroom, hf, hadd, hst]
theorem oneCell_size {z : Value} {i : TypeInfo} (h1 : i.size = 1) (h : z.cells.size = i.size) (n : Nat) : (Builtin.zeroCells z.cells n).size = n := by simp [Builtin.zeroCells, h, h1]
theorem append_runW (w : World) {base : Nat} (t ty e : TypeId) (i : TypeInfo) (z : Value) (bytes : Nat) (ht : P.underlying t = some (.slice e)) (hi : P.info? e = some i) (hz : i.zero = some z)
    (hsize : i.size = 1) (hby : i.bytes = bytes) (hzs : z.cells.size = i.size) {a : Option Addr} {c tt C : Nat} {ys : List Value} (hV : WV base a c tt ys.length C)
    (hF : ∀ g, a.map (·.block) = some g → ∃ o, w.heap[g]? = some o ∧ (wF (a.map (·.block)) e C ys).holds o)
    (ad : Addr) (c0 : Nat) (u : Value) (hnews : w.cell? ad = some u) (h1 : u.oneCell' = true) (h63 : ys.length - tt + 1 ≤ maxLen) (hbytes : (ys.length - tt + 1) * bytes ≤ 140737488355328) (hbase : base ≤ w.heap.size) :
    ∃ a' c' t' C' ys' w', (Builtin.append_ #[t, t] ty #[.slice a (ys.length - tt) c, .slice (some ad) 1 c0]).run P w = .ok (.slice a' (ys.length - tt + 1) c') w' ∧ WV base a' c' t' ys'.length C' ∧ ys'.drop t' = ys.drop tt ++ [u] ∧
      (∀ g, a'.map (·.block) = some g → ∃ o, w'.heap[g]? = some o ∧ (wF (a'.map (·.block)) e C' ys').holds o) ∧ w.grownBy w' (a.map (·.block)) ∧ (a'.map (·.block) = a.map (·.block) ∨ a'.map (·.block) = some w.heap.size) := by
  obtain ⟨h2, h3, h4, h5, h6, h7⟩ := hV
  subst hby
  have hsmall : ys.length - tt + 1 ≤ 9223372036854775807 := by simp only [maxLen] at h63; omega
  have hn1 : ∀ j v, [u][j]? = some v → w.cell? (ad.add j) = some v := fun j v hj => by
    match j, hj with
    | 0, hj => simp at hj; subst hj; simpa [Addr.add] using hnews
  -- what the growing arm leaves
  have grown : ∀ (old : Nat) (xs : List Value), xs = ys.drop tt → ∃ w', w' = w.drew.alloc (.cells (xs.toArray ++ [u].toArray ++ Builtin.zeroCells z.cells (grownCap w (ys.length - tt + 1) old e - (ys.length - tt + 1))) e) ∧
      WV base (some ⟨w.heap.size, 0, none⟩) (grownCap w (ys.length - tt + 1) old e) 0 (xs ++ [u]).length (grownCap w (ys.length - tt + 1) old e) ∧
      (∃ o, w'.heap[w.heap.size]? = some o ∧ (wF (some w.heap.size) e (grownCap w (ys.length - tt + 1) old e) (xs ++ [u])).holds o) ∧ w.grownBy w' (a.map (·.block)) := by
    intro old xs hxs
    have hge := grownCap_ge w (ys.length - tt + 1) old e
    have hcm : grownCap w (ys.length - tt + 1) old e ≤ maxLen := grownCap_le_maxLen w (ys.length - tt + 1) old e h63
    have hxl : xs.length = ys.length - tt := by rw [hxs, List.length_drop]
    refine ⟨_, rfl, ⟨Nat.zero_le _, by rw [List.length_append, hxl]; simpa using hge, hcm, by omega, fun h => (by cases h), fun _ h => by cases h; exact ⟨hbase, fun _ => rfl⟩⟩, ⟨_, heap_alloc_new w.drew _, _, rfl, ?_, ?_⟩, ⟨rfl, rfl, rfl, by simp, fun k hk _ => heap_alloc_old w.drew _ hk⟩⟩
    · simp only [Array.size_append, List.size_toArray, oneCell_size hsize hzs, List.length_singleton, hxl]
      omega
    · simp only [Array.toList_append]
      exact List.take_left
  cases a with
  | none =>
    have hC := h6 rfl
    subst hC
    have hy : ys = [] := List.eq_nil_of_length_eq_zero (by omega)
    subst hy
    obtain rfl : tt = 0 := by simpa using h2
    obtain rfl : c = 0 := by omega
    have hr := run_append_nil (P := P) w t ty e i z ht hi hz ad 1 c0 [u] (by simp [hsize]) hn1 (by omega) (by omega) (by have hb := hbytes; simp only [List.length_nil, Nat.zero_sub, Nat.zero_add] at hb; omega)
    obtain ⟨w', rfl, hg1, hg2, hg3⟩ := grown 0 [] rfl
    simp only [List.length_nil, Nat.zero_sub, Nat.zero_add, List.nil_append, Array.empty_append] at hg1 hg2 hg3 ⊢
    exact ⟨some ⟨w.heap.size, 0, none⟩, _, 0, _, [u], _, hr, hg1, rfl, fun g hg => by cases hg; exact hg2, hg3, .inr rfl⟩
  | some b =>
    obtain ⟨h8, h9⟩ := h7 b rfl
    by_cases hroom : ys.length - tt + 1 ≤ c
    · have hb := h9 (by omega)
      obtain ⟨o, ho, cur, rfl, hsz, htk⟩ := hF b.block rfl
      have hr := run_append_roomW (P := P) w t ty e i ht hi hsize b.block tt (ys.length - tt) c cur ho ad c0 u hnews h1 hroom (by omega)
      rw [← hb] at hr
      have e1 : tt + (ys.length - tt) = ys.length := by omega
      rw [e1, htk] at hr
      refine ⟨some b, c, tt, C, ys ++ [u], _, hr, ⟨by rw [List.length_append]; omega, by rw [List.length_append]; simp only [List.length_singleton]; omega, h4, h5, fun h => (by cases h), fun ad had => by cases had; exact ⟨h8, h9⟩⟩, List.drop_append_of_le_length h2, fun g hg => ?_, ⟨rfl, rfl, rfl, by simp [World.setRow], fun k _ hk => setRow_other w b.block k _ (fun e => hk (by simp [e]))⟩, .inl rfl⟩
      cases hg
      refine ⟨_, setRow_heap w b.block cur _ e _ ho, _, rfl, ?_, ?_⟩
      · simp only [List.size_toArray, List.length_append, List.length_drop, Array.length_toList, List.length_singleton]
        omega
      · exact List.take_left
    · have hr := run_append_grow (P := P) w t ty e i z ht hi hz b (ys.length - tt) c (ys.drop tt) (by rw [List.length_drop, hsize]; omega) (fun j v hj => wf_at ⟨h2, h3, h4, h5, h6, h7⟩ hF rfl hj) ad 1 c0 [u] (by simp [hsize]) hn1 (by omega) (by omega) (growslice_fits (by omega) hbytes)
      obtain ⟨w', rfl, hg1, hg2, hg3⟩ := grown c _ rfl
      exact ⟨_, _, 0, _, _, _, hr, hg1, by simp, fun g hg => by cases hg; exact hg2, hg3, .inr rfl⟩
theorem op_appendV {E : Env} (hE : E.Ok P) {q : Option (List Fact)} {o : Oper} {m : M} {t : List T} {k : M → List T → T → Tree} {x y : Operand} {ty e : TypeId} {bytes : Nat} {a ua : Option Addr} {n c uc tt C : Nat} {ys : List Value} {u : Value} (fs : List Fact) (n1 : Nat) (hn1 : n1 = n + 1)
    (ho : o.op = .call ⟨.builtin .append, #[x, y], #[ty, ty]⟩) (hrow : lk E.row ty = some (e, 1, bytes)) (hx : ev t x = .v (.slice a n c)) (hy : ev t y = .v (.slice ua 1 uc)) (hu : ua.isSome = true) (hm1 : rowF ua [u] ∈ m.facts) (ho3 : u.oneCell' = true)
    (hF : wF (a.map (·.block)) e C ys ∈ m.facts) (hV : WV W.heap.size a c tt ys.length C) (hn : n = ys.length - tt) (h63 : n + 1 ≤ maxLen) (hby : (n + 1) * bytes ≤ 140737488355328)
    (hq : q = none) (hfs : ∀ ψ ∈ fs, ψ ∈ m.facts ∧ ∀ g, ψ.g = some g → a.map (·.block) ≠ some g)
    (h : ∀ a' c' t' C' ys', WV W.heap.size a' c' t' ys'.length C' → ys'.drop t' = ys.drop tt ++ [u] → (k { m with facts := wF (a'.map (·.block)) e C' ys' :: fs } t (.v (.slice a' n1 c'))).wpD P W G Q ds) : (Tree.op q o m t k).wpD P W G Q ds := by
  intro β ρ ac w hm hr K Q' hK
  obtain ⟨dst, op, ty', pos, after, guard⟩ := o
  simp only at ho
  subst ho
  subst hn1
  subst hn
  have h1 := hr.ev x
  rw [hx] at h1
  have h1 : ac.eval x = .slice a (ys.length - tt) c := h1
  have h2 := hr.ev y
  rw [hy] at h2
  have h2 : ac.eval y = .slice ua 1 uc := h2
  obtain ⟨ud, rfl⟩ := Option.isSome_iff_exists.1 hu
  have hcell := (hm.at_ hm1).cell (j := 0) (u := u) rfl
  obtain ⟨ht, i, z, hi, hz, hsize, hbb, hzs, hsz⟩ := hE.row ty e 1 bytes hrow
  have hF0 := fun g hg => (hm.fact _ hF g hg).2
  obtain ⟨a', c', t', C', ys', w', hrun, hV', hd, hF', hgr, hwhere⟩ := append_runW (P := P) w (base := W.heap.size) ty ty' e i z bytes ht hi hz hsize hbb (by omega) hV hF0 ud uc u (by simpa [Addr.add] using hcell) ho3 h63 hby hm.grown.size
  unfold Oper.wp
  have : (execOp ac.eval ⟨dst, .call ⟨.builtin .append, #[x, y], #[ty, ty]⟩, ty', pos, after, guard⟩).run P w = .ok (.value (.slice a' (ys.length - tt + 1) c')) w' := by
    simp [execOp, resolve, invoke, builtin, h1, h2, hrun]
  rw [this]
  subst hq
  have hnew : ∀ g, a'.map (·.block) = some g → a'.map (·.block) = some w.heap.size → Apart m β ρ g := fun g hg he => by
    have e1 : g = w.heap.size := by
      rw [he] at hg
      exact (Option.some.inj hg).symm
    exact hm.apart (.inr (.inl (by omega)))
  refine hK _ t (.v (.slice a' (ys.length - tt + 1) c')) β ρ w' _ (h a' c' t' C' ys' hV' hd) ?_ hr rfl (fun F hF' => by cases hF')
  cases a with
  | none =>
    have hbel : Below w.heap.size w w' := ⟨hgr.os, hgr.tape, hgr.output, hgr.size, fun k hk => hgr.block k hk (by simp)⟩
    have h5 : Mem W G { m with facts := fs } β ρ w' := by
      have := hm.grow hbel
      exact ⟨this.grown, this.nd, this.bl, this.lo, this.own, this.rl, this.row, this.rb, this.rows, fun φ hφ => this.fact φ (hfs φ hφ).1⟩
    refine h5.learn [wF (a'.map (·.block)) e C' ys'] fun φ hφ g hg => ?_
    simp only [List.mem_singleton] at hφ
    subst hφ
    refine ⟨?_, hF' g hg⟩
    rcases hwhere with he | he
    · have h7 : a'.map (·.block) = some g := hg
      rw [he] at h7
      cases h7
    · exact hnew g hg he
  | some ad =>
    have hgW := (hV.2.2.2.2.2 ad rfl).1
    rcases hwhere with he | he
    · refine hm.turn hF rfl (.inl hgW) hgr fun ψ hψ => ?_
      rcases List.mem_cons.1 hψ with rfl | hψ
      · exact .inr ⟨he, hF' _ he⟩
      · refine .inl ⟨(hfs ψ hψ).1, fun hg => (hfs ψ hψ).2 _ hg rfl⟩
    · have h5 : Mem W G { m with facts := fs } β ρ w' := hm.turn hF rfl (.inl hgW) hgr fun ψ hψ => .inl ⟨(hfs ψ hψ).1, fun hg => (hfs ψ hψ).2 _ hg rfl⟩
      refine h5.learn [wF (a'.map (·.block)) e C' ys'] fun φ hφ g hg => ?_
      simp only [List.mem_singleton] at hφ
      subst hφ
      exact ⟨hnew g hg he, hF' g hg⟩
/-- One of its words is read. -/
theorem readV {E : Env} (hE : E.Ok P) {ty e : TypeId} {ad : Addr} {a : Option Addr} {c tt C i : Nat} {ys : List Value} {m : M} {K : Value → Tree} (v : Value) (hty : lk E.agg ty = some none) (hF : wF (a.map (·.block)) e C ys ∈ m.facts) (hV : WV W.heap.size a c tt ys.length C) (hv : (ys.drop tt)[i]? = some v)
    (haddr : ad = (a.getD ⟨0, 0, none⟩).add i) (h : (K v).wpD P W G Q ds) : (Tree.load ty ad m K).wpD P W G Q ds := by
  refine ⟨v, fun β ρ w hM => ?_, h⟩
  cases a with
  | none =>
    have h6 := hV.2.2.2.2.1 rfl
    have : ys = [] := List.eq_nil_of_length_eq_zero (by have := hV.2.1; omega)
    subst this
    simp at hv
  | some b =>
    have hc := wf_at hV (fun g hg => (hM.fact _ hF g hg).2) rfl hv
    rw [hE.agg1 ty hty, haddr]
    simp [load, Sem.run, hc]
end
end Go.Proofs.Ytoaohkllkooibaa.Sx
