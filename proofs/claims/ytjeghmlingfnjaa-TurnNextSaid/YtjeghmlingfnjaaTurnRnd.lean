/- Layer 10 (turn): Rounds: its first round by the iterator's contract, the others by reckoning. -/
import Derived.Test.YtjeghmlingfnjaaTurnCall
import Derived.Test.YtjeghmlingfnjaaGive
import Derived.Test.YtjeghmlingfnjaaShape
import Derived.Maps.AppendAt
namespace Go.Proofs.Ytjeghmlingfnjaa.turn
open Go.RowKit Go.Shelf Sx
set_option linter.unusedVariables false
set_option linter.unusedSimpArgs false
attribute [local go_sem] Oper.semAt_some

theorem info_int : (Try.prog.info? 3).map (fun i => (i.zero, i.size, i.bytes)) = some (some (.int .i64 0), 1, 8) := by kernel_rfl
def ic (l : List Int) : List Value := l.map (Value.int .i64)
def nc (l : List Nat) : List Value := l.map fun x : Nat => Value.int .i64 (x : Int)
theorem nc_one (l : List Nat) (x : Nat) : nc (l ++ [x]) = nc l ++ [.int .i64 (x : Int)] := by simp [nc]
theorem app_kept {W w1 : World} {v v' : Value} {tmp : Obj} {B k : Nat} (hgrow : (W.alloc tmp).grownBy w1 v.ownBlock) (hk : k < W.heap.size) (h1 : v.ownBlock ≠ some k) (h2 : k ≠ B) : (w1.setCell ⟨B, 0, none⟩ v').heap[k]? = W.heap[k]? :=
  (Below.heap_setCell w1 _ v' k h2).trans ((hgrow.block k (by rw [World.size_alloc]; omega) (fun e => h1 e.symm)).trans (Below.heap_alloc W tmp k hk))
theorem base_down {W : World} {b b' : Nat} {e : TypeId} {size : Nat} {v : Value} {n : Nat} {xs : List Value} (h : W.ownsRow b e size v n xs) (hb : b' ≤ b) : W.ownsRow b' e size v n xs := by
  refine ⟨h.1, ?_⟩
  rcases h.2 with h0 | ⟨g, cap, cur, hv, hg, hr⟩
  · exact .inl h0
  · exact .inr ⟨g, cap, cur, hv, Nat.le_trans hb hg, hr⟩
theorem row_form {W : World} {b : Nat} {e : TypeId} {size : Nat} {v : Value} {n : Nat} {xs : List Value} (h : W.ownsRow b e size v n xs) : ∃ a cap, v = .slice a n cap := by
  rcases h.2 with ⟨rfl, h0⟩ | ⟨g, cap, cur, rfl, _⟩
  · exact ⟨none, 0, by rw [h0]⟩
  · exact ⟨_, _, rfl⟩
/-- The first c of some, round and round. -/
def cyc (O : List Nat) (c k : Nat) : List Nat := (List.range k).map fun j => (O[j % c]?).getD 0
theorem cyc_succ (O : List Nat) (c k : Nat) : cyc O c (k + 1) = cyc O c k ++ [(O[k % c]?).getD 0] := by simp [cyc, List.range_succ]
theorem cyc_length (O : List Nat) (c k : Nat) : (cyc O c k).length = k := by simp [cyc]
theorem cyc_take (O : List Nat) (c : Nat) (hc : c ≤ O.length) : O.take c = cyc O c c := by
  apply List.ext_getElem
  · simp [cyc]; omega
  · intro i h1 h2
    have hi : i < c := by simp [cyc] at h2; exact h2
    simp [cyc, Nat.mod_eq_of_lt hi, show i < O.length from by omega]
theorem cyc_back (O : List Nat) (c k : Nat) (hc : 0 < c) (hk : c ≤ k) : (cyc O c k)[k - c]? = some ((O[k % c]?).getD 0) := by
  have h : (k - c) % c = k % c := (Nat.mod_eq_sub_mod hk).symm
  simp [cyc, show k - c < k from by omega, h]
theorem rnds_cyc (bs : List Bool) (last m : Int) (c : Nat) (hc : c = min (ord bs (frm bs last)).length (min m 1000).toNat) : rnds bs last m = ((cyc (ord bs (frm bs last)) c (if c = 0 then 0 else (min m 1000).toNat)).map fun x : Nat => (x : Int)) := by
  have hl := ord_length bs (frm bs last) (frm_le bs last)
  unfold rnds
  generalize (min m 1000).toNat = M at *
  by_cases hu : ups bs = []
  · have h0 : (ups bs).length = 0 := by rw [hu]; rfl
    rw [if_pos hu, if_pos (by omega)]
    rfl
  · rw [if_neg hu]
    have hup : 0 < (ups bs).length := List.length_pos_iff.2 hu
    by_cases hM : M = 0
    · rw [if_pos (by omega), hM]
      rfl
    · rw [if_neg (by omega)]
      unfold cyc
      rw [List.map_map]
      apply List.map_congr_left
      intro j hj
      have hj : j < M := by simpa using hj
      have e : j % c = j % (ups bs).length := by
        by_cases h1 : (ups bs).length ≤ M
        · rw [show c = (ups bs).length from by omega]
        · rw [Nat.mod_eq_of_lt (show j < c by omega), Nat.mod_eq_of_lt (show j < (ups bs).length by omega)]
      have hlt : j % (ups bs).length < (ord bs (frm bs last)).length := by rw [hl]; exact Nat.mod_lt _ hup
      simp [e, oi, hlt]
theorem nc_get {l : List Nat} {k x : Nat} (h : l[k]? = some x) : (nc l)[k]? = some (.int .i64 (x : Int)) := by simp [nc, h]
theorem ic_nc (l : List Nat) : ic (l.map fun x : Nat => (x : Int)) = nc l := by simp [ic, nc]
/-- The world as Rounds has it behind its first round. -/
structure Told (w : World) (n₁ : Nat) (mm : Int) (B : Nat) (told : List Nat) (W : World) : Prop where
  num : Boxed W w.heap.size 3 (.int .i64 mm)
  row : ∃ v, Boxed W B 50 v ∧ W.ownsRow n₁ 3 1 v told.length (nc told) ∧ True
  below : Below w.heap.size w W
def tl : Code → Code
  | .seq _ b => b
  | c => c
/-- What Rounds does behind its first round. -/
noncomputable def rest : Code := tl (tl (tl (tl (Try.f50.body.getD .skip))))
def dF (D : Nat) : Fact := ⟨some D, fun o => o = .deferred (some [])⟩
theorem anys_rels {β : List Nat} {ρ : List Value} : ∀ (n : Nat) (l : List Value), l.length = n → Rels β ρ (anys n) l
  | 0, l, h => by rw [List.eq_nil_of_length_eq_zero h]; exact Rels.nil
  | n + 1, [], h => by simp at h
  | n + 1, y :: l, h => Rels.cons trivial (anys_rels n l (by simpa using h))
theorem rounds_mem {w W : World} {D n₁ k : Nat} {mm : Int} {v : Value} {xs : List Value} (hn₁ : w.heap.size + 4 ≤ n₁) (hnW : n₁ ≤ W.heap.size)
    (hbox : Boxed W w.heap.size 3 (.int .i64 mm)) (hv : Boxed W (w.heap.size + 1) 50 v) (hrow : W.ownsRow n₁ 3 1 v k xs) (hB : Below w.heap.size w W) (hD : n₁ ≤ D) (hK : W.heap[D]? = some (.deferred (some []))) :
    Mem w none ⟨[some ([.v (.int .i64 mm)], 3), some ([.r 0], 50)], [some ⟨3, 1, k, xs⟩], [dF D]⟩ [w.heap.size, w.heap.size + 1] [v] W where
  grown := ⟨hB.os, hB.tape, hB.output, hB.size, fun i hi _ => hB.block i hi⟩
  nd := by simp
  bl := rfl
  lo g hg := by
    simp only [List.mem_cons, List.not_mem_nil, or_false] at hg
    rcases hg with rfl | rfl <;> omega
  own b cs ty hb := by
    match b, hb with
    | 0, hb =>
      simp at hb
      obtain ⟨rfl, rfl⟩ := hb
      exact ⟨_, [.int .i64 mm], rfl, hbox, Rels.vals [.int .i64 mm], by simp [Value.oneCell']⟩
    | 1, hb =>
      simp at hb
      obtain ⟨rfl, rfl⟩ := hb
      refine ⟨_, [v], rfl, hv, Rels.one (show Rel _ _ (.r 0) v from rfl), ?_⟩
      intro u hu
      simp only [List.mem_singleton] at hu
      subst hu
      rcases hrow.2 with ⟨rfl, _⟩ | ⟨g, cap, cur, rfl, _⟩ <;> rfl
    | b + 2, hb => simp at hb
  rl := rfl
  row i r hi := by
    match i, hi with
    | 0, hi =>
      simp at hi
      subst hi
      exact ⟨v, rfl, base_down hrow (Nat.zero_le _)⟩
    | i + 1, hi => simp at hi
  rb u hu g hg := by
    simp only [List.mem_singleton] at hu
    subst hu
    have := hrow.lt g hg
    refine ⟨?_, .inl (by omega), this.2⟩
    simp only [List.mem_cons, List.not_mem_nil, or_false]
    omega
  rows i j u u2 g hij hu hu2 := by
    match i, j with
    | 0, 0 => exact absurd rfl hij
    | 0, j + 1 => simp at hu2
    | i + 1, _ => simp at hu
  fact φ hφ g hg := by
    simp only [List.mem_singleton] at hφ
    subst hφ
    cases hg
    refine ⟨⟨fun b hb => ?_, fun i u hu hug => ?_⟩, _, hK, rfl⟩
    · have := List.mem_of_getElem? hb
      simp only [List.mem_cons, List.not_mem_nil, or_false] at this
      omega
    · have := List.mem_of_getElem? hu
      simp only [List.mem_singleton] at this
      subst this
      rcases hrow.2 with ⟨rfl, _⟩ | ⟨g, cap, cur, rfl, _, hgb, _⟩
      · cases hug
      · cases hug
        rw [hK] at hgb
        cases hgb
set_option maxRecDepth 100000 in
set_option maxHeartbeats 4000000 in
theorem rounds_tail (n : Nat) (bs : List Bool) (last m mm : Int) (hmm : mm = min m 1000) (w W : World) (D n₁ c : Nat) (tmps : Array Value) (O : List Nat) (hO : O = ord bs (frm bs last)) (hc : c = min O.length mm.toNat) (hlenO : O.length ≤ 1000000000)
    (ht : tmps.size = 45) (h5 : tmps[5]? = some (.pointer (some ⟨w.heap.size, 0, none⟩))) (h7 : tmps[7]? = some (.pointer (some ⟨w.heap.size + 1, 0, none⟩))) (hn₁ : w.heap.size + 4 ≤ n₁) (hnW : n₁ ≤ W.heap.size)
    (hbox : Boxed W w.heap.size 3 (.int .i64 mm)) (v : Value) (hv : Boxed W (w.heap.size + 1) 50 v) (hrow : W.ownsRow n₁ 3 1 v c (nc (O.take c))) (hB : Below w.heap.size w W) (hD : n₁ ≤ D) (hK : W.heap[D]? = some (.deferred (some []))) :
    rest.wpIn Fence.wide n Try.prog (bodyPostM Fence.wide n Try.prog Try.f50 fun e W' => ∃ v, e = .returned v ∧ Below w.heap.size w W' ∧ W'.ownsRow w.heap.size 3 1 v (rnds bs last m).length (ic (rnds bs last m))) { tmps := tmps, defers := [{ target := .collected D, args := #[] }] } W := by
  have hr := rnds_cyc bs last m c (by rw [hc, hO, hmm])
  rw [← hO, ← hmm] at hr
  rw [cyc_take O c (by omega)] at hrow
  have hmm1 : mm ≤ 1000 := by omega
  refine wpIn_wide.2 ?_
  refine exec_sound (W := w) (G := none) (Q := fun _ _ => True) (ds := [{ target := .collected D, args := #[] }]) env_ok.keeps [(9, (lineT [0, 1, 2, 3, 4, 5, 6, 7, 8] [9, 10], []))] rest (by kernel_rfl) ⟨[some ([.v (.int .i64 mm)], 3), some ([.r 0], 50)], [some ⟨3, 1, c, nc (cyc O c c)⟩], [dF D]⟩ (sl 45 [(5, .p 0 0), (7, .p 1 0)]) (fun e mM t => .done (∀ β ρ a w', Mem w none mM β ρ w' → Rels β ρ t a.tmps.toList → a.defers = [{ target := .collected D, args := #[] }] → (bodyPostM Fence.wide n Try.prog Try.f50 fun e W' => ∃ v, e = .returned v ∧ Below w.heap.size w W' ∧ W'.ownsRow w.heap.size 3 1 v (rnds bs last m).length (ic (rnds bs last m))) e a w')) _ [w.heap.size, w.heap.size + 1] [v] _ W (fun e mM t h β ρ a w' hm hr hd => h β ρ a w' hm hr hd) (rounds_mem hn₁ hnW hbox hv hrow hB hD hK) ?_ rfl ?_
  · have h0 := anys_rels (β := [w.heap.size, w.heap.size + 1]) (ρ := [v]) 45 tmps.toList (by simpa using ht)
    have h1 := h0.known 5 (x := .p 0 0) (y := .pointer (some ⟨w.heap.size, 0, none⟩)) (by simpa using h5) ⟨_, rfl, rfl⟩
    exact h1.known 7 (x := .p 1 0) (y := .pointer (some ⟨w.heap.size + 1, 0, none⟩)) (by simpa using h7) ⟨_, rfl, rfl⟩
  (conv => arg 5; whnf)
  refine loop_rule env_ok.keeps [(9, (lineT [0, 1, 2, 3, 4, 5, 6, 7, 8] [9, 10], []))] (by kernel_rfl) (fun k : Nat => c ≤ k ∧ (k = c ∨ (0 < c ∧ k ≤ mm.toNat))) (fun k => (⟨[some ([.v (.int .i64 mm)], 3), some ([.r 0], 50)], [some ⟨3, 1, k, nc (cyc O c k)⟩], [dF D]⟩, sl 45 [(5, .p 0 0), (7, .p 1 0), (9, .v (.int .i64 (c : Nat)))])) (fun k => mm.toNat - k) c ⟨Nat.le_refl _, .inl rfl⟩ ⟨by repeat' first | exact trivial | refine ⟨.inl rfl, ?_⟩ | refine ⟨.inr rfl, ?_⟩, ⟨by repeat' first | exact trivial | refine ⟨.inl rfl, ?_⟩ | refine ⟨.inr rfl, ?_⟩, by repeat' first | exact trivial | refine ⟨.inl rfl, ?_⟩ | refine ⟨.inr rfl, ?_⟩, fun _ h => h⟩, rfl⟩ ?_
  rintro k ⟨hck, hk⟩
  (conv => arg 5; whnf)
  refine wp_g1 (fun g1 => ?_) (fun g1 => ?_)
  · have hc0 : 0 < c := by have g1 : decide ((c : Int) > 0) = true := g1; simp at g1; omega
    clear g1
    (conv => arg 5; whnf)
    refine wp_br (fun g2 => ?_) (fun g2 => ?_)
    · have hlt : (k : Int) < mm := by have g2 : decide ((k : Int) < mm) = true := g2; simpa using g2
      clear g2
      have hcb := nc_get (cyc_back O c k hc0 hck)
      have hsu := cyc_succ O c k
      (conv => arg 5; whnf)
      refine wp_must (by show -9223372036854775808 ≤ ((k : Nat) : Int) - (c : Nat) ∧ ((k : Nat) : Int) - (c : Nat) ≤ 9223372036854775807; omega) ?_
      (conv => arg 5; whnf)
      refine wp_must ⟨by show 0 ≤ ((k : Nat) : Int) - (c : Nat); omega, by show ((k : Nat) : Int) - (c : Nat) < (k : Nat); omega⟩ ?_
      (conv => arg 5; whnf)
      refine ⟨[.int .i64 (((O[k % c]?).getD 0 : Nat) : Int)], rfl, fun j u hu => (by cases j with | zero => (simp at hu; subst hu; rw [Nat.mul_one, Nat.add_zero, show ((k : Int) - c).toNat = k - c from by omega]; exact hcb) | succ j => simp at hu), ?_⟩
      (conv => arg 5; whnf)
      refine wp_must ⟨by show k + 1 ≤ maxLen; unfold maxLen; omega, by show (k + 1) * 8 ≤ 140737488355328; omega⟩ ?_
      have e3 : nc (cyc O c k) ++ [.int .i64 (((O[k % c]?).getD 0 : Nat) : Int)] = nc (cyc O c (k + 1)) := by rw [hsu, nc_one]
      (conv => arg 5; whnf)
      rw [e3]; refine wp_end ⟨k + 1, ⟨by omega, .inr ⟨hc0, by omega⟩⟩, ⟨by repeat' first | exact trivial | refine ⟨.inl rfl, ?_⟩ | refine ⟨.inr rfl, ?_⟩, ⟨by repeat' first | exact trivial | refine ⟨.inl rfl, ?_⟩ | refine ⟨.inr rfl, ?_⟩, by repeat' first | exact trivial | refine ⟨.inl rfl, ?_⟩ | refine ⟨.inr rfl, ?_⟩, fun _ h => h⟩, rfl⟩, by show mm.toNat - (k + 1) < mm.toNat - k; omega⟩
    · have hge : mm ≤ (k : Int) := by have g2 : decide ((k : Int) < mm) = false := g2; simpa using g2
      clear g2
      (conv => arg 5; whnf)
      refine wp_end (fun β ρ a' w' hm hrl hd => ?_)
      have h6 := hrl.ev (.tmp 6)
      have h6 : ρ[0]? = some (a'.tmps.getD 6 undef) := h6
      obtain ⟨v', hv', ho⟩ := hm.row 0 ⟨3, 1, k, nc (cyc O c k)⟩ rfl
      rw [hv'] at h6
      have h6 := Option.some.inj h6
      obtain ⟨_, o, hKo, rfl⟩ := hm.fact (dF D) List.mem_cons_self D rfl
      have hrow' : w'.ownsRow w.heap.size 3 1 v' k (nc (cyc O c k)) := by
        have := hm.mine (i := 0) rfl hv'
        exact this
      show LeavesInM Fence.wide n Try.prog _ a'.tmps _ a'.defers .returning w'
      rw [hd]
      refine ⟨by simp, .inl ⟨_, _, rfl, run_takeDeferred hKo, ?_⟩⟩
      refine ⟨_, results_tmp rfl _ _ _, _, rfl, hm.below.trans (belowK_b (w := w) (Nat.le_refl _) w' D _ _ (by omega) hKo rfl rfl), ?_⟩
      rw [← h6, hr, ic_nc, List.length_map, cyc_length]
      have e : (if c = 0 then 0 else mm.toNat) = k := by
        split <;> omega
      rw [e]
      exact ownsRow_putObj hrow' _ hKo rfl
  · have hc0 : c = 0 := by have g1 : decide ((c : Int) > 0) = false := g1; simp at g1; omega
    clear g1
    (conv => arg 5; whnf)
    refine wp_end (fun β ρ a' w' hm hrl hd => ?_)
    have h6 := hrl.ev (.tmp 6)
    have h6 : ρ[0]? = some (a'.tmps.getD 6 undef) := h6
    obtain ⟨v', hv', ho⟩ := hm.row 0 ⟨3, 1, k, nc (cyc O c k)⟩ rfl
    rw [hv'] at h6
    have h6 := Option.some.inj h6
    obtain ⟨_, o, hKo, rfl⟩ := hm.fact (dF D) List.mem_cons_self D rfl
    have hrow' : w'.ownsRow w.heap.size 3 1 v' k (nc (cyc O c k)) := by
      have := hm.mine (i := 0) rfl hv'
      exact this
    show LeavesInM Fence.wide n Try.prog _ a'.tmps _ a'.defers .returning w'
    rw [hd]
    refine ⟨by simp, .inl ⟨_, _, rfl, run_takeDeferred hKo, ?_⟩⟩
    refine ⟨_, results_tmp rfl _ _ _, _, rfl, hm.below.trans (belowK_b (w := w) (Nat.le_refl _) w' D _ _ (by omega) hKo rfl rfl), ?_⟩
    rw [← h6, hr, ic_nc, List.length_map, cyc_length]
    have e : (if c = 0 then 0 else mm.toNat) = k := by
      split <;> omega
    rw [e]
    exact ownsRow_putObj hrow' _ hKo rfl
set_option maxRecDepth 100000 in
set_option maxHeartbeats 4000000 in
theorem Rounds_in (n : Nat) (hn : 3 ≤ n) (a : Option Addr) (bs : List Bool) (cap : Nat) (last m : Int) (hm : -9223372036854775808 ≤ m ∧ m < 9223372036854775808) (hlen : bs.length ≤ 1000000000) (w : World) (hI : Row w.heap.size w a bs) :
    CallsIn Fence.wide n Try.prog 50 #[.slice a bs.length cap, .int .i64 last, .int .i64 m] w fun e W' => ∃ v, e = .returned v ∧ Below w.heap.size w W' ∧ W'.ownsRow w.heap.size 3 1 v (rnds bs last m).length (ic (rnds bs last m)) := by
  have h1 : 1 ≤ n := by omega
  have hro : Fence.wide.round = none := rfl
  obtain ⟨i0, hi, hz0, hz1, hz2⟩ := info_parts info_int
  refine callsIn_of_wp_marks Try.func50 rfl trivial ?_ hro
  simp only [Try.ntmps50, List.size_toArray, List.length_cons, List.length_nil, Nat.reduceAdd, Nat.reduceSub, Array.replicate_succ, Array.replicate_zero, List.push_toArray, List.append_toArray, List.nil_append, List.cons_append]
  by_cases hmm : m ≤ 1000
  · skip
    have hmv : min m 1000 = m := by omega
    have hfl := frm_le bs last
    have bN := Boxed.new w 3 (.int .i64 (m : Int))
    have bT := Boxed.new (w.alloc (.cells #[.int .i64 (m : Int)] 3)) 50 (.slice none 0 0)
    rw [World.size_alloc] at bT
    have hB0 : Below w.heap.size w ((w.alloc (.cells #[.int .i64 (m : Int)] 3)).alloc (.cells #[.slice none 0 0] 50)) := ((Below.refl _ w).alloc (Nat.le_refl _) _).alloc (by simp) _
    gi_wp2_with (refine ⟨trivial, ?_⟩; gi_at_call 63; refine (round_in Fence.wide (n - 1) trivial hro _ _ _ _ hlen _).mono ?_; rintro e w2 ⟨rfl, hB1, hsz, hcl, hcf⟩)
    rename_i K hKr
    simp only [World.size_alloc] at hB1 hsz hcl hcf
    have bN2 : Boxed w2 w.heap.size 3 (.int .i64 (m : Int)) := (hB1.block _ (by omega)).trans (bN.alloc _)
    have bT2 : Boxed w2 (w.heap.size + 1) 50 (.slice none 0 0) := (hB1.block _ (by omega)).trans bT
    have hB2 : Below w.heap.size w w2 := hB0.trans (hB1.mono (by omega))
    have hIe := hI.below hB2
    have hszl : w.heap.size + 4 ≤ w2.heap.size := by omega
    clear bN bT hB0 hB1 hsz
    refine wpIn_rangeFunc_ownG hro h1 (gf := 64) (lb := #[.pointer (some ⟨w.heap.size + 1 + 1, 0, none⟩), .pointer (some ⟨w.heap.size + 1 + 1 + 1, 0, none⟩)]) rfl trivial (enters_of Try.func64 (by kernel_rfl) rfl)
      (round_stops Fence.wide (n - 1) trivial hro (by omega) (w.heap.size + 1 + 1) (w.heap.size + 1 + 1 + 1) w.heap.size cap (frm bs last) a bs hlen hfl w2 (by omega) (by omega) (by omega) hcl hcf hIe) (fun h k => h.trans k) (keeps_b (by omega) (by omega) (by omega)) (Below.refl _ _) (fun _ => rfl)
      (fun pre W => ((pre.length ≤ ((m : Int)).toNat ∧ w2.heap.size ≤ W.heap.size ∧ Boxed W w.heap.size 3 (.int .i64 (m : Int))) ∧ (∃ v, Boxed W (w.heap.size + 1) 50 v ∧ W.ownsRow w2.heap.size 3 1 v pre.length (nc pre) ∧ True)) ∧ Below w.heap.size w W)
      (fun c pre W => ((c = .exit 0 ∧ ∃ (ini : List Nat) (x : Nat), pre = ini ++ [x] ∧ ini.length = ((m : Int)).toNat ∧ Boxed W w.heap.size 3 (.int .i64 (m : Int)) ∧ (∃ v, Boxed W (w.heap.size + 1) 50 v ∧ W.ownsRow w2.heap.size 3 1 v ini.length (nc ini) ∧ True))) ∧ Below w.heap.size w W)
      (OwnFrom.and (OwnFrom.and (Own.from (fun s A B row hs hg hr => ⟨hs.1, Nat.le_trans hs.2.1 hg.size, hs.2.2.kept hg (fun e => by obtain ⟨o, ho, hc⟩ := hr w.heap.size e.symm; rw [show A.heap[w.heap.size]? = _ from hs.2.2] at ho; cases ho; cases hc)⟩) _) (Own.from (holdsRow_own w2.heap.size (w.heap.size + 1) 50 3 1 (fun pre : List Nat => pre.length) (fun pre => nc pre) (fun _ _ => True)) _)) (ownFrom_below (Nat.le_refl _) (by omega)))
      (fun c => OwnFrom.and (Own.from (fun s A B row hs hg hr => by
        obtain ⟨hc, ini, x, e1, e2, e3, e4⟩ := hs
        exact ⟨hc, ini, x, e1, e2, e3.kept hg (fun e => by obtain ⟨o, ho, hc⟩ := hr w.heap.size e.symm; rw [show A.heap[w.heap.size]? = _ from e3] at ho; cases ho; cases hc), holdsRow_own w2.heap.size (w.heap.size + 1) 50 3 1 (fun pre : List Nat => pre.length) (fun pre => nc pre) (fun _ _ => True) ini A B row e4 hg hr⟩) _) (ownFrom_below (Nat.le_refl _) (by omega)))
      ⟨⟨⟨Nat.zero_le _, Nat.le_refl _, bN2⟩, _, bT2, World.ownsRow_nil w2 w2.heap.size 3 1, trivial⟩, hB2⟩
      (fun x => { tmps := #[.slice a bs.length cap, .int .i64 last, .int .i64 m, undef, undef, .pointer (some ⟨w.heap.size, 0, none⟩), .slice none 0 0, .pointer (some ⟨w.heap.size + 1, 0, none⟩), .int .i64 (x : Nat), undef, .int .i64 m, .int .i64 (m : Int), .slice a bs.length cap, .int .i64 last, .func (.func 64) #[] #[.pointer (some ⟨w.heap.size + 1 + 1, 0, none⟩), .pointer (some ⟨w.heap.size + 1 + 1 + 1, 0, none⟩)], .int .i64 (x : Nat), undef, undef, undef, undef, undef, undef, undef, undef, undef, undef, undef, undef, undef, undef, undef, undef, undef, undef, undef, undef, undef, undef, undef, undef, undef, undef, undef, undef, undef], defers := [] }) ?assign ?body ?done ?stop
    case assign =>
      intro l x W K hK
      gi_wp2
      exact hK
    case body =>
      rintro l pre x W ⟨⟨⟨hpl, hszW, bN⟩, v, bT, hrow, _⟩, hB⟩ hlt
      have hcn := bN.cell
      have hct := bT.cell
      obtain ⟨va, vc, rfl⟩ := row_form hrow
      have hML : bs.length + 1 ≤ maxLen := by unfold maxLen; omega
      have hle0 : w.heap.size ≤ w2.heap.size := by omega
      have hle1 : w.heap.size ≤ W.heap.size := by omega
      have hnb : ∀ k, k < w2.heap.size → (Value.slice va pre.length vc).ownBlock ≠ some k := fun k hk e => by have := (hrow.lt _ e).1; omega
      by_cases hge : (pre.length : Int) ≥ (m : Int)
      · have hgd : decide ((pre.length : Int) ≥ (m : Int)) = true := by simpa using hge
        gi_wp2
        exact ⟨KeepsFrom.refl _ _, ⟨rfl, pre, x, rfl, by omega, bN, _, bT, hrow, trivial⟩, hB⟩
      · have hgd : decide ((pre.length : Int) ≥ (m : Int)) = false := by simpa using hge
        gi_wp2_with (gi_at_builtin; refine wpListIn_append_own _ rfl _ _ 50 rfl w2.heap.size 3 i0 (.int .i64 0) 1 8 Try.underlying50 hi hz0 hz1 hz2 rfl (by decide) _ _ _ rfl (hrow.alloc _) ⟨W.heap.size, 0, none⟩ 1 1 [.int .i64 (x : Int)] rfl rfl (cell_one_new _ _ _) (by simp [Value.oneCell']) (by omega) (by omega) (by simp; omega) ?_; intro v' w1 hown' hgrow _; obtain ⟨g', cap', rfl⟩ := ownsRow_succ hown'; obtain ⟨hv1, hv2, hr2, hk2, hb2⟩ := bT.appended (by decide) (base_down hrow hle0) hle1 (Nat.le_succ _) (base_down hown' hle0) hgrow; have hc1 := hv1.cell; have hf1 := hv1.frozen)
        refine ⟨hk2.from _, ⟨hb2, app_kept hgrow (by omega) (hnb _ (by omega)) (by omega), app_kept hgrow (by omega) (hnb _ (by omega)) (by omega)⟩, ⟨⟨by simp; omega, by rw [World.size_setCell]; exact Nat.le_trans hszW (Nat.le_trans (by simp) hgrow.size), (app_kept hgrow (by omega) (hnb _ (by omega)) (by omega)).trans bN⟩, _, hv2, ?_⟩, hB.trans hb2⟩
        have := hown'.kept (grownBy_setCell' w1 (w.heap.size + 1) (.slice (some ⟨g', 0, none⟩) (pre.length + 1) cap')) (.inr (hv1.not_row (by decide) hown').symm)
        have h2 : (w1.setCell ⟨w.heap.size + 1, 0, none⟩ (.slice (some ⟨g', 0, none⟩) (pre.length + 1) cap')).ownsRow w2.heap.size 3 1 (.slice (some ⟨g', 0, none⟩) (pre.length + 1) cap') (pre ++ [x]).length (nc (pre ++ [x])) := by
          rw [nc_one, List.length_append]
          exact this
        first | exact h2 | exact ⟨h2, trivial⟩
    case done =>
      rintro D ys W hD rfl ⟨⟨⟨hpl, hszW, bN⟩, v, bT, hrow, _⟩, hB⟩ hK
      have hol := ord_length bs (frm bs last) hfl
      have hul := ups_le bs
      show K _ _
      refine hKr _ _ (rounds_tail n bs last m (m : Int) hmv.symm w W D w2.heap.size (ord bs (frm bs last)).length _ (ord bs (frm bs last)) rfl (by omega) (by omega) rfl rfl rfl hszl hszW bN v bT ?_ hB hD hK)
      rw [List.take_length]
      exact hrow
    case stop =>
      rintro D c pre W hD ⟨k, x, hk, hx, ho, hp⟩ ⟨⟨rfl, ini, x', e1, e2, bN, v, bT, hrow, _⟩, hB⟩ hK
      have hol := ord_length bs (frm bs last) hfl
      have hul := ups_le bs
      have hpx := sq_stop hfl hk hx ho
      rw [← hp, e1] at hpx
      obtain ⟨r, hr⟩ := hpx
      have hlen2 : ((m : Int)).toNat < (ord bs (frm bs last)).length := by rw [← hr, ← e2]; simp
      have htk : ini = (ord bs (frm bs last)).take ((m : Int)).toNat := by rw [← hr, ← e2]; simp
      refine wpIn_exit ?_
      show K _ _
      refine hKr _ _ (rounds_tail n bs last m (m : Int) hmv.symm w W D w2.heap.size ((m : Int)).toNat _ (ord bs (frm bs last)) rfl (by omega) (by omega) rfl rfl rfl hszl (Nat.le_trans hD (by have := (Array.getElem?_eq_some_iff.1 hK).1; omega)) bN v bT ?_ hB hD hK)
      rw [← htk]
      rw [e2] at hrow
      exact hrow
  · have hmn : ¬ m ≤ 1000 := hmm
    have hmv : min m 1000 = 1000 := by omega
    have hfl := frm_le bs last
    have bN := Boxed.new w 3 (.int .i64 (1000 : Int))
    have bT := Boxed.new (w.alloc (.cells #[.int .i64 (1000 : Int)] 3)) 50 (.slice none 0 0)
    rw [World.size_alloc] at bT
    have hB0 : Below w.heap.size w ((w.alloc (.cells #[.int .i64 (1000 : Int)] 3)).alloc (.cells #[.slice none 0 0] 50)) := ((Below.refl _ w).alloc (Nat.le_refl _) _).alloc (by simp) _
    gi_wp2_with (refine ⟨trivial, ?_⟩; gi_at_call 63; refine (round_in Fence.wide (n - 1) trivial hro _ _ _ _ hlen _).mono ?_; rintro e w2 ⟨rfl, hB1, hsz, hcl, hcf⟩)
    rename_i K hKr
    simp only [World.size_alloc] at hB1 hsz hcl hcf
    have bN2 : Boxed w2 w.heap.size 3 (.int .i64 (1000 : Int)) := (hB1.block _ (by omega)).trans (bN.alloc _)
    have bT2 : Boxed w2 (w.heap.size + 1) 50 (.slice none 0 0) := (hB1.block _ (by omega)).trans bT
    have hB2 : Below w.heap.size w w2 := hB0.trans (hB1.mono (by omega))
    have hIe := hI.below hB2
    have hszl : w.heap.size + 4 ≤ w2.heap.size := by omega
    clear bN bT hB0 hB1 hsz
    refine wpIn_rangeFunc_ownG hro h1 (gf := 64) (lb := #[.pointer (some ⟨w.heap.size + 1 + 1, 0, none⟩), .pointer (some ⟨w.heap.size + 1 + 1 + 1, 0, none⟩)]) rfl trivial (enters_of Try.func64 (by kernel_rfl) rfl)
      (round_stops Fence.wide (n - 1) trivial hro (by omega) (w.heap.size + 1 + 1) (w.heap.size + 1 + 1 + 1) w.heap.size cap (frm bs last) a bs hlen hfl w2 (by omega) (by omega) (by omega) hcl hcf hIe) (fun h k => h.trans k) (keeps_b (by omega) (by omega) (by omega)) (Below.refl _ _) (fun _ => rfl)
      (fun pre W => ((pre.length ≤ ((1000 : Int)).toNat ∧ w2.heap.size ≤ W.heap.size ∧ Boxed W w.heap.size 3 (.int .i64 (1000 : Int))) ∧ (∃ v, Boxed W (w.heap.size + 1) 50 v ∧ W.ownsRow w2.heap.size 3 1 v pre.length (nc pre) ∧ True)) ∧ Below w.heap.size w W)
      (fun c pre W => ((c = .exit 0 ∧ ∃ (ini : List Nat) (x : Nat), pre = ini ++ [x] ∧ ini.length = ((1000 : Int)).toNat ∧ Boxed W w.heap.size 3 (.int .i64 (1000 : Int)) ∧ (∃ v, Boxed W (w.heap.size + 1) 50 v ∧ W.ownsRow w2.heap.size 3 1 v ini.length (nc ini) ∧ True))) ∧ Below w.heap.size w W)
      (OwnFrom.and (OwnFrom.and (Own.from (fun s A B row hs hg hr => ⟨hs.1, Nat.le_trans hs.2.1 hg.size, hs.2.2.kept hg (fun e => by obtain ⟨o, ho, hc⟩ := hr w.heap.size e.symm; rw [show A.heap[w.heap.size]? = _ from hs.2.2] at ho; cases ho; cases hc)⟩) _) (Own.from (holdsRow_own w2.heap.size (w.heap.size + 1) 50 3 1 (fun pre : List Nat => pre.length) (fun pre => nc pre) (fun _ _ => True)) _)) (ownFrom_below (Nat.le_refl _) (by omega)))
      (fun c => OwnFrom.and (Own.from (fun s A B row hs hg hr => by
        obtain ⟨hc, ini, x, e1, e2, e3, e4⟩ := hs
        exact ⟨hc, ini, x, e1, e2, e3.kept hg (fun e => by obtain ⟨o, ho, hc⟩ := hr w.heap.size e.symm; rw [show A.heap[w.heap.size]? = _ from e3] at ho; cases ho; cases hc), holdsRow_own w2.heap.size (w.heap.size + 1) 50 3 1 (fun pre : List Nat => pre.length) (fun pre => nc pre) (fun _ _ => True) ini A B row e4 hg hr⟩) _) (ownFrom_below (Nat.le_refl _) (by omega)))
      ⟨⟨⟨Nat.zero_le _, Nat.le_refl _, bN2⟩, _, bT2, World.ownsRow_nil w2 w2.heap.size 3 1, trivial⟩, hB2⟩
      (fun x => { tmps := #[.slice a bs.length cap, .int .i64 last, .int .i64 m, undef, undef, .pointer (some ⟨w.heap.size, 0, none⟩), .slice none 0 0, .pointer (some ⟨w.heap.size + 1, 0, none⟩), .int .i64 (x : Nat), undef, .int .i64 m, .int .i64 (1000 : Int), .slice a bs.length cap, .int .i64 last, .func (.func 64) #[] #[.pointer (some ⟨w.heap.size + 1 + 1, 0, none⟩), .pointer (some ⟨w.heap.size + 1 + 1 + 1, 0, none⟩)], .int .i64 (x : Nat), undef, undef, undef, undef, undef, undef, undef, undef, undef, undef, undef, undef, undef, undef, undef, undef, undef, undef, undef, undef, undef, undef, undef, undef, undef, undef, undef, undef, undef], defers := [] }) ?assign ?body ?done ?stop
    case assign =>
      intro l x W K hK
      gi_wp2
      exact hK
    case body =>
      rintro l pre x W ⟨⟨⟨hpl, hszW, bN⟩, v, bT, hrow, _⟩, hB⟩ hlt
      have hcn := bN.cell
      have hct := bT.cell
      obtain ⟨va, vc, rfl⟩ := row_form hrow
      have hML : bs.length + 1 ≤ maxLen := by unfold maxLen; omega
      have hle0 : w.heap.size ≤ w2.heap.size := by omega
      have hle1 : w.heap.size ≤ W.heap.size := by omega
      have hnb : ∀ k, k < w2.heap.size → (Value.slice va pre.length vc).ownBlock ≠ some k := fun k hk e => by have := (hrow.lt _ e).1; omega
      by_cases hge : (pre.length : Int) ≥ (1000 : Int)
      · have hgd : decide ((pre.length : Int) ≥ (1000 : Int)) = true := by simpa using hge
        gi_wp2
        exact ⟨KeepsFrom.refl _ _, ⟨rfl, pre, x, rfl, by omega, bN, _, bT, hrow, trivial⟩, hB⟩
      · have hgd : decide ((pre.length : Int) ≥ (1000 : Int)) = false := by simpa using hge
        gi_wp2_with (gi_at_builtin; refine wpListIn_append_own _ rfl _ _ 50 rfl w2.heap.size 3 i0 (.int .i64 0) 1 8 Try.underlying50 hi hz0 hz1 hz2 rfl (by decide) _ _ _ rfl (hrow.alloc _) ⟨W.heap.size, 0, none⟩ 1 1 [.int .i64 (x : Int)] rfl rfl (cell_one_new _ _ _) (by simp [Value.oneCell']) (by omega) (by omega) (by simp; omega) ?_; intro v' w1 hown' hgrow _; obtain ⟨g', cap', rfl⟩ := ownsRow_succ hown'; obtain ⟨hv1, hv2, hr2, hk2, hb2⟩ := bT.appended (by decide) (base_down hrow hle0) hle1 (Nat.le_succ _) (base_down hown' hle0) hgrow; have hc1 := hv1.cell; have hf1 := hv1.frozen)
        refine ⟨hk2.from _, ⟨hb2, app_kept hgrow (by omega) (hnb _ (by omega)) (by omega), app_kept hgrow (by omega) (hnb _ (by omega)) (by omega)⟩, ⟨⟨by simp; omega, by rw [World.size_setCell]; exact Nat.le_trans hszW (Nat.le_trans (by simp) hgrow.size), (app_kept hgrow (by omega) (hnb _ (by omega)) (by omega)).trans bN⟩, _, hv2, ?_⟩, hB.trans hb2⟩
        have := hown'.kept (grownBy_setCell' w1 (w.heap.size + 1) (.slice (some ⟨g', 0, none⟩) (pre.length + 1) cap')) (.inr (hv1.not_row (by decide) hown').symm)
        have h2 : (w1.setCell ⟨w.heap.size + 1, 0, none⟩ (.slice (some ⟨g', 0, none⟩) (pre.length + 1) cap')).ownsRow w2.heap.size 3 1 (.slice (some ⟨g', 0, none⟩) (pre.length + 1) cap') (pre ++ [x]).length (nc (pre ++ [x])) := by
          rw [nc_one, List.length_append]
          exact this
        first | exact h2 | exact ⟨h2, trivial⟩
    case done =>
      rintro D ys W hD rfl ⟨⟨⟨hpl, hszW, bN⟩, v, bT, hrow, _⟩, hB⟩ hK
      have hol := ord_length bs (frm bs last) hfl
      have hul := ups_le bs
      show K _ _
      refine hKr _ _ (rounds_tail n bs last m (1000 : Int) hmv.symm w W D w2.heap.size (ord bs (frm bs last)).length _ (ord bs (frm bs last)) rfl (by omega) (by omega) rfl rfl rfl hszl hszW bN v bT ?_ hB hD hK)
      rw [List.take_length]
      exact hrow
    case stop =>
      rintro D c pre W hD ⟨k, x, hk, hx, ho, hp⟩ ⟨⟨rfl, ini, x', e1, e2, bN, v, bT, hrow, _⟩, hB⟩ hK
      have hol := ord_length bs (frm bs last) hfl
      have hul := ups_le bs
      have hpx := sq_stop hfl hk hx ho
      rw [← hp, e1] at hpx
      obtain ⟨r, hr⟩ := hpx
      have hlen2 : ((1000 : Int)).toNat < (ord bs (frm bs last)).length := by rw [← hr, ← e2]; simp
      have htk : ini = (ord bs (frm bs last)).take ((1000 : Int)).toNat := by rw [← hr, ← e2]; simp
      refine wpIn_exit ?_
      show K _ _
      refine hKr _ _ (rounds_tail n bs last m (1000 : Int) hmv.symm w W D w2.heap.size ((1000 : Int)).toNat _ (ord bs (frm bs last)) rfl (by omega) (by omega) rfl rfl rfl hszl (Nat.le_trans hD (by have := (Array.getElem?_eq_some_iff.1 hK).1; omega)) bN v bT ?_ hB hD hK)
      rw [← htk]
      rw [e2] at hrow
      exact hrow
/-- Rounds, as a callee. -/
theorem rounds (a : Option Addr) (bs : List Bool) (cap : Nat) (last m : Int) (hm : Fits m) (hlen : bs.length ≤ 1000000000) (w : World) (hI : Row w.heap.size w a bs) :
    Calls Try.prog 50 (List.toArray [.slice a bs.length cap, .int .i64 last, .int .i64 m]) w fun e W' => ∃ v, e = .returned v ∧ Below w.heap.size w W' ∧ W'.ownsRow w.heap.size 3 1 v (rnds bs last m).length (ic (rnds bs last m)) :=
  callsIn_wide.1 (Rounds_in 10 (by omega) a bs cap last m hm hlen w hI)
theorem count (a : Option Addr) (bs : List Bool) (cap : Nat) (hlen : bs.length ≤ 1000000000) (w : World) (hI : Row w.heap.size w a bs) :
    Calls Try.prog 44 (List.toArray [.slice a bs.length cap]) w fun e W' => e = .returned (.int .i64 ((ups bs).length : Nat)) ∧ Below w.heap.size w W' :=
  callsIn_wide.1 (Count_in Fence.wide 10 trivial trivial trivial rfl (by omega) a bs cap hlen w hI)
theorem next_ (a : Option Addr) (bs : List Bool) (cap : Nat) (last : Int) (hlen : bs.length ≤ 1000000000) (w : World) (hI : Row w.heap.size w a bs) :
    Calls Try.prog 48 (List.toArray [.slice a bs.length cap, .int .i64 last]) w fun e W' => e = .returned (.int .i64 (nxt bs last)) ∧ Below w.heap.size w W' :=
  callsIn_wide.1 (Next_in Fence.wide 10 trivial trivial trivial rfl (by omega) a bs cap last hlen w hI)
theorem pick (a : Option Addr) (bs : List Bool) (cap : Nat) (m : Int) (hm : Fits m) (hlen : bs.length ≤ 1000000000) (w : World) (hI : Row w.heap.size w a bs) :
    Calls Try.prog 46 (List.toArray [.slice a bs.length cap, .int .i64 m]) w fun e W' => e = .returned (.int .i64 (pck bs m)) ∧ Below w.heap.size w W' :=
  callsIn_wide.1 (Pick_in Fence.wide 10 trivial trivial trivial trivial rfl (by omega) a bs cap m hm hlen w hI)
theorem on_get {bs : List Bool} {j : Nat} (h : j < bs.length) : bs[j]? = some (on bs j) := by simp [on, h]
/-- A row of bools that came in. -/
theorem row_of {w : World} {a : Option Addr} {n c : Nat} {bs : List Bool} (hs : Sl a n c) (hn : n = bs.length) (h : At w (pt a n) (bs.map Value.bool)) : Row w.heap.size w a bs := by
  by_cases h0 : bs = []
  · exact .inl h0
  · have hp : 0 < bs.length := List.length_pos_iff.2 h0
    rw [pt_pos (k := 0) (by omega)] at h
    obtain ⟨ad, rfl⟩ := Option.isSome_iff_exists.1 (hs.some (k := 0) (by omega))
    obtain ⟨o, ho, hh⟩ := h ad.block rfl
    obtain ⟨hsp, cur, e, fr, rfl, hcell⟩ := hh ad rfl
    obtain ⟨b, off, sp⟩ := ad
    simp only [] at hsp
    subst hsp
    refine .inr ⟨b, off, rfl, (Array.getElem?_eq_some_iff.1 ho).1, fun j hj => ?_⟩
    have := hcell j (.bool (on bs j)) (by rw [List.getElem?_map, on_get hj]; rfl)
    simpa [World.cell?, ho] using this
end Go.Proofs.Ytjeghmlingfnjaa.turn
