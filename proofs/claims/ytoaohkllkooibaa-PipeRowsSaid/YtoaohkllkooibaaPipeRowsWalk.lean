/- The walk of hopperlaw08.PipeRows. -/
import Derived.Test.YtoaohkllkooibaaPipeOpen
import Derived.Test.YtoaohkllkooibaaSxW
namespace Go.Proofs.Ytoaohkllkooibaa.pipeRows
open Go.RowKit Sx pipe
set_option linter.unusedVariables false
set_option linter.unusedSimpArgs false
abbrev ic (l : List Int) : List Value := l.map (Value.int .i64)
abbrev at_ (l : List It) : List Value := l.map fun x => .int .i64 x.a
abbrev St := Nat × Option Addr × Nat × List It × Option Addr × Nat × Nat × Nat × List Value
def shiftW (a : Option Addr) (c : Nat) : Option Addr := if c = 1 then a else a.map fun x => x.add 1
theorem slice_fromW (a : Option Addr) (n c : Nat) (w : World) (h : 1 ≤ n) (hc : n ≤ c) : (do pure (Next.value (← Instr.sliceAt 50 (.slice a n c) (some (.int .i64 1)) none none)) : Sem Next).run Try.prog w = .ok (.value (.slice (shiftW a c) (n - 1) (c - 1))) w := by
  have h2 : (1 : Int) ≤ n := by omega
  have h3 : (n : Int) ≤ c := by omega
  unfold shiftW
  by_cases h4 : c = 1
  · have h5 : (c : Int) = 1 := by omega
    simp [Instr.sliceAt, Instr.slice, run_underlying Try.underlying50, Sem.run_bind, go_sem, h2, h3, h4, h5]
  · have h5 : (c : Int) ≠ 1 := by omega
    simp [Instr.sliceAt, Instr.slice, run_underlying Try.underlying50, Sem.run_bind, go_sem, h2, h3, h4, h5]
theorem wv_tail {base : Nat} {a : Option Addr} {c t N C : Nat} (h : WV base a c t N C) (h1 : t + 1 ≤ N) : WV base (shiftW a c) (c - 1) (t + 1) N C ∧ (shiftW a c).map (·.block) = a.map (·.block) := by
  obtain ⟨h2, h3, h4, h5, h6, h7⟩ := h
  unfold shiftW
  by_cases h8 : c = 1
  · rw [if_pos h8]
    exact ⟨⟨h1, h3, h4, by omega, h6, fun ad had => ⟨(h7 ad had).1, fun h9 => (by omega)⟩⟩, rfl⟩
  · rw [if_neg h8]
    cases a with
    | none => exact ⟨⟨h1, h3, h4, by omega, fun _ => h6 rfl, fun ad had => (by cases had)⟩, rfl⟩
    | some b =>
      refine ⟨⟨h1, h3, h4, by omega, fun h => (by cases h), fun ad had => ?_⟩, rfl⟩
      have e : b.add 1 = ad := Option.some.inj had
      obtain ⟨h9, h10⟩ := h7 b rfl
      have h11 := h10 (by omega)
      subst e
      rw [h11]
      exact ⟨h9, fun _ => rfl⟩
theorem nbool (x y : Operand) (p q : Bool) (h : p = q) (w : World) : (do eqGuard .neq 4 x y (.bool p) (.bool q); pure (Next.value (← binOp .neq 4 (.bool p) (.bool q))) : Sem Next).run Try.prog w = .ok (.value (.bool false)) w := by
  subst h
  simp [eqGuard, go_sem]
theorem wv_some {base : Nat} {a : Option Addr} {c t N C : Nat} (h : WV base a c t N C) (h1 : t < N) : a.isSome = true := by
  cases a with
  | none => have := h.2.2.2.2.1 rfl; have := h.2.1; omega
  | some b => rfl
section
variable {P : Program} {W : World} {G : Option Nat} {Q : Ending → World → Prop} {ds : List Deferred}
theorem meet1G {f : FuncId} {args : List Sx.T} {l : List Value} {m : M} {k : Value → List Fact → Tree} {n : Nat} {v : Option Addr → Nat → Value} {xs : List Value} (hv : valsOf args = some l) (hc : callable P f = true)
    (hC : ∀ β ρ w, Mem W G m β ρ w → Calls P f (List.toArray l) w fun e w' => ∃ i : One, Sl i.1 n i.2 ∧ Gives w w' e (v i.1 i.2) [rowF (pt i.1 n) xs]) (h : ∀ a c, Sl a n c → (∀ φ ∈ m.facts, ∀ g, φ.g = some g → (rowF (pt a n) xs).g ≠ some g) → (k (v a c) [rowF (pt a n) xs]).wpD P W G Q ds) : (Tree.call f args m k).wpD P W G Q ds :=
  meetR (ι := One) (ok := fun i => Sl i.1 n i.2 ∧ ∀ φ ∈ m.facts, ∀ g, φ.g = some g → (rowF (pt i.1 n) xs).g ≠ some g) (v := fun i => v i.1 i.2) (fs := fun i => [rowF (pt i.1 n) xs]) hc (fun β ρ w vs hm hr => by
    rw [valsOf_spec _ _ _ hv hr]
    refine (hC β ρ w hm).mono fun e w' ⟨i, hi, hg⟩ => ⟨i, ⟨hi, fun φ hφ g hgφ he => ?_⟩, hg⟩
    have h1 := (hg.2.2 _ List.mem_cons_self g he).1
    obtain ⟨o, ho, _⟩ := (hm.fact φ hφ g hgφ).2
    have h2 := (Array.getElem?_eq_some_iff.1 ho).1
    omega) (fun i hi => h i.1 i.2 hi.1 hi.2)
end
theorem hfsW {base g0 : Nat} {m : M} {φ ψ : Fact} {wa : Option Addr} {c t N C : Nat} (hV : WV base wa c t N C) (h1 : ∀ g, wa.map (·.block) = some g → φ.g ≠ some g) (h2 : ∀ g, ψ.g = some g → g < base) (m1 : φ ∈ m.facts) (m2 : ψ ∈ m.facts) : ∀ χ ∈ [φ, ψ], χ ∈ m.facts ∧ ∀ g, χ.g = some g → wa.map (·.block) ≠ some g := by
  intro χ hχ
  simp only [List.mem_cons, List.not_mem_nil, or_false] at hχ
  rcases hχ with rfl | rfl
  · exact ⟨m1, fun g hg he => h1 g he hg⟩
  · refine ⟨m2, fun g hg he => ?_⟩
    have h3 := h2 g hg
    cases wa with
    | none => cases he
    | some b =>
      have h4 := (hV.2.2.2.2.2 b rfl).1
      have h5 : b.block = g := Option.some.inj he
      omega
theorem at3 {w : World} {a b : Option Addr} {xs ys : List Value} {φ : Fact} (h : At w a xs) (hφ : φ.g = none) (k : At w b ys) : ∀ ψ ∈ [rowF a xs, φ, rowF b ys], ∀ g, ψ.g = some g → ∃ o, w.heap[g]? = some o ∧ ψ.holds o := by
  intro ψ hψ
  simp only [List.mem_cons, List.not_mem_nil, or_false] at hψ
  rcases hψ with rfl | rfl | rfl
  · exact h
  · intro g hg; rw [hφ] at hg; cases hg
  · exact k
set_option maxHeartbeats 4000000 in
set_option maxRecDepth 100000 in
theorem walk (room : Int) (a : Option Addr) (n c : Nat) (l : List Int) (w : World) (hro : Fits room) (h : Sl a n c ∧ n = l.length ∧ At w (pt a n) (ic l) ∧ ∀ z ∈ l, Fits z) : Calls Try.prog 4 (List.toArray [.int .i64 room, .slice a n c]) w fun e w' =>  e = .returned (.bool true) ∧ Below w.heap.size w w' := by
  obtain ⟨hs, hn, hrow, -⟩ := h
  have hn63 := hs.le
  have hfr : ∀ g, (rowF (pt a n) (ic l)).g = some g → g < w.heap.size := fun g hg => by obtain ⟨o, ho, _⟩ := hrow g hg; exact (Array.getElem?_eq_some_iff.1 ho).1
  refine calls_of_exec (env_ok.keeps.open_ [1000000] false) Try.func4 rfl [(10, (line [0, 1, 2, 3, 4, 5, 6, 7, 8, 9, 10, 11, 12, 13, 14, 15, 16, 17, 18, 19, 20, 21, 22, 23, 24, 25], [])), (15, (.one 0 (.one 1 (.one 2 (.one 3 (.one 4 (.one 5 (.fork 6 (.one 7 (.one 8 (.one 9 (.one 10 (.one 11 (.one 12 (.done))))))) 10 (.one 6 (.one 7 (.one 8 (.one 9 (.one 11 (.one 12 (.done))))))))))))), [])), (26, (line [0, 1, 2, 3, 4, 5, 6, 7, 8, 9, 10], []))] (schedQ_ok _ _ (by kernel_rfl)) [rowF (pt none 0) (cellsE []), wF none 3 0 [], rowF (pt a n) (ic l)] (at3 at_nil rfl hrow) ?_
  by_cases hr : 1 ≤ room ∧ room ≤ 8
  · have hN : newV room = (room, 0) := if_pos hr
    (conv => arg 5; whnf)
    refine meetc (f := 16) (v := .tuple #[pv room false none 0 0, .int .i64 0]) rfl (by kernel_rfl) (fun β ρ w' hM' => newT room room 0 w' hN) ?_
    (conv => arg 5; whnf)
    refine wp_g0 (fun g2 => ?_) (fun g2 => ?_)
    · have hl : n ≤ 200 := by simp at g2; omega
      (conv => arg 5; whnf)
      refine loop_rule (env_ok.keeps.open_ [1000000] false) [(10, (line [0, 1, 2, 3, 4, 5, 6, 7, 8, 9, 10, 11, 12, 13, 14, 15, 16, 17, 18, 19, 20, 21, 22, 23, 24, 25], [])), (15, (.one 0 (.one 1 (.one 2 (.one 3 (.one 4 (.one 5 (.fork 6 (.one 7 (.one 8 (.one 9 (.one 10 (.one 11 (.one 12 (.done))))))) 10 (.one 6 (.one 7 (.one 8 (.one 9 (.one 11 (.one 12 (.done))))))))))))), [])), (26, (line [0, 1, 2, 3, 4, 5, 6, 7, 8, 9, 10], []))] (schedQ_ok _ _ (by kernel_rfl)) (fun q : St => q.1 ≤ n ∧ Sl q.2.1 q.2.2.2.1.length q.2.2.1 ∧ WV w.heap.size q.2.2.2.2.1 q.2.2.2.2.2.1 q.2.2.2.2.2.2.1 q.2.2.2.2.2.2.2.2.length q.2.2.2.2.2.2.2.1 ∧ at_ q.2.2.2.1 = q.2.2.2.2.2.2.2.2.drop q.2.2.2.2.2.2.1 ∧ (q.2.2.2.1.length : Int) ≤ room ∧ q.2.2.2.1.length ≤ q.1) (fun q => (⟨[some ([.v (.int .i64 room), .v (.bool false), .v (.slice q.2.1 q.2.2.2.1.length q.2.2.1)], 31)], [], [rowF (pt q.2.1 q.2.2.2.1.length) (cellsE q.2.2.2.1), wF (q.2.2.2.2.1.map (·.block)) 3 q.2.2.2.2.2.2.2.1 q.2.2.2.2.2.2.2.2, rowF (pt a n) (ic l)]⟩, sl 172 [(0, .v (.int .i64 room)), (1, .v (.slice a n c)), (4, .v (.bool false)), (5, .p 0 0), (7, .v (.slice q.2.2.2.2.1 q.2.2.2.1.length q.2.2.2.2.2.1)), (8, .v (.int .i64 (q.1 : Nat)))])) (fun q => n - q.1) (0, none, 0, [], none, 0, 0, 0, []) ⟨Nat.zero_le _, sl_nil, wv_nil, rfl, by simp; omega, by simp⟩ ⟨by repeat' first | exact trivial | refine ⟨.inl rfl, ?_⟩ | refine ⟨.inr rfl, ?_⟩, ⟨by repeat' first | exact trivial | refine ⟨.inl rfl, ?_⟩ | refine ⟨.inr rfl, ?_⟩, by repeat' first | exact trivial | refine ⟨.inl rfl, ?_⟩ | refine ⟨.inr rfl, ?_⟩, fun φ h => by simp only [List.mem_cons, List.not_mem_nil, or_false] at h; rcases h with rfl | rfl | rfl; exact .head _; exact .tail _ (.head _); exact .tail _ (.tail _ (.head _))⟩, rfl⟩ ?_
      rintro ⟨k, pa, pc, it, wa, wc, tt, C, ys⟩ ⟨hk, hps, hV, hit, hir, hik⟩
      simp only [] at hk hps hV hit hir hik
      have hlen := congrArg List.length hit
      rw [List.length_map, List.length_drop] at hlen
      (conv => arg 5; whnf)
      refine wp_br (fun g3 => ?_) (fun g3 => ?_)
      · have hlt : k < n := by simp at g3; omega
        obtain ⟨z, hz⟩ : ∃ z, l[k]? = some z := ⟨_, List.getElem?_eq_getElem (by omega)⟩
        have hz2 : (ic l)[k]? = some (.int .i64 z) := by simp [hz]
        (conv => arg 5; whnf)
        refine wp_must ⟨by omega, by omega, hs.some hlt⟩ ?_
        (conv => arg 5; whnf)
        refine readP (n := n) (k := k) (j := k) (xs := ic l) (.int .i64 z) rfl (.tail _ (.tail _ (.head _))) hlt (hs.some hlt) hz2 (by rw [Nat.mul_one]; rfl) ?_
        (conv => arg 5; whnf)
        refine wp_br (fun g4 => ?_) (fun g4 => ?_)
        · cases it with
          | cons x0 r =>
            have hr0 : (x0 :: r).length = r.length + 1 := rfl
            rw [hr0] at hlen hir hik
            obtain ⟨hV2, hab⟩ := wv_tail hV (by omega)
            have hd : at_ r = ys.drop (tt + 1) := by rw [← List.drop_drop, ← hit]; rfl
            have hhd : (ys.drop tt)[0]? = some (.int .i64 x0.a) := by rw [← hit]; rfl
            (conv => arg 5; whnf)
            refine meet1F (f := 12) (n := r.length) (v := fun a1 c1 => .tuple #[pv room false a1 r.length c1, x0.val, .int .i64 0]) (xs := cellsE r) rfl (by kernel_rfl) (fun β ρ w' hM' => takeT room false pa (x0 :: r).length pc (x0 :: r) w' hps rfl hro (by rw [hr0]; omega) r.length r x0 0 rfl rfl rfl rfl (hM'.at_ (.head _))) (fun z c_z h_z f_z => ?_)
            (conv => arg 5; whnf)
            refine wp_prim (.bool false) (fun w => nbool _ _ _ _ (by rw [hr0]; simp; try omega) w) ?_
            (conv => arg 5; whnf)
            refine wp_must ⟨by omega, by show ((0 : Int) : Int) < ((x0 :: r).length : Nat); rw [hr0]; omega, wv_some hV (by omega)⟩ ?_
            (conv => arg 5; whnf)
            refine readV env_ok (a := wa) (c := wc) (tt := tt) (C := C) (ys := ys) (i := 0) (.int .i64 x0.a) rfl (.tail _ (.tail _ (.head _))) hV hhd (by rw [Nat.mul_one]; rfl) ?_
            (conv => arg 5; whnf)
            refine wp_br (fun g5 => by simp at g5) (fun _ => ?_)
            (conv => arg 5; whnf)
            refine wp_br (fun g6 => ?_) (fun g6 => by simp at g6)
            (conv => arg 5; whnf)
            refine wp_prim (.slice (shiftW wa wc) ((x0 :: r).length - 1) (wc - 1)) (fun w => slice_fromW wa _ wc w (by rw [hr0]; omega) (by rw [hr0]; have := hV.2.1; have := hV.2.2.2.1; omega)) ?_
            (conv => arg 5; whnf)
            refine wp_must ⟨by omega, by omega⟩ ?_
            (conv => arg 5; whnf)
            refine wp_end ⟨(k + 1, z, c_z, r, shiftW wa wc, wc - 1, tt + 1, C, ys), ⟨hlt, h_z, hV2, hd, by show (r.length : Int) ≤ room; omega, by show r.length ≤ k + 1; omega⟩, ⟨by repeat' first | exact trivial | refine ⟨.inl rfl, ?_⟩ | refine ⟨.inr rfl, ?_⟩, ⟨by repeat' first | exact trivial | refine ⟨.inl rfl, ?_⟩ | refine ⟨.inr rfl, ?_⟩, by repeat' first | exact trivial | refine ⟨.inl rfl, ?_⟩ | refine ⟨.inr rfl, ?_⟩, fun φ h => by simp only [List.mem_cons, List.not_mem_nil, or_false] at h; rcases h with rfl | rfl | rfl; exact (.head _); (show wF ((shiftW wa wc).map (·.block)) _ _ _ ∈ _; rw [hab]; exact (.tail _ (.tail _ (.head _)))); exact (.tail _ (.tail _ (.tail _ (.head _))))⟩, rfl⟩, by show n - (k + 1) < n - k; omega⟩
          | nil =>
            (conv => arg 5; whnf)
            refine meet1F (f := 12) (n := 0) (v := fun a1 c1 => .tuple #[pv room false a1 0 c1, it0.val, .int .i64 7]) (xs := cellsE []) rfl (by kernel_rfl) (fun β ρ w' hM' => takeT room false pa 0 pc [] w' hps rfl hro (by decide) 0 [] it0 7 rfl rfl rfl rfl (hM'.at_ (.head _))) (fun z c_z h_z f_z => ?_)
            (conv => arg 5; whnf)
            refine wp_prim (.bool false) (fun w => nbool _ _ _ _ (by rfl) w) ?_
            (conv => arg 5; whnf)
            refine wp_must ⟨by omega, by omega⟩ ?_
            (conv => arg 5; whnf)
            refine wp_end ⟨(k + 1, z, c_z, [], wa, wc, tt, C, ys), ⟨hlt, h_z, hV, hit, by show ((0 : Nat) : Int) ≤ room; omega, Nat.zero_le _⟩, ⟨by repeat' first | exact trivial | refine ⟨.inl rfl, ?_⟩ | refine ⟨.inr rfl, ?_⟩, ⟨by repeat' first | exact trivial | refine ⟨.inl rfl, ?_⟩ | refine ⟨.inr rfl, ?_⟩, by repeat' first | exact trivial | refine ⟨.inl rfl, ?_⟩ | refine ⟨.inr rfl, ?_⟩, fun φ h => by simp only [List.mem_cons, List.not_mem_nil, or_false] at h; rcases h with rfl | rfl | rfl; exact (.head _); exact (.tail _ (.tail _ (.head _))); exact (.tail _ (.tail _ (.tail _ (.head _))))⟩, rfl⟩, by show n - (k + 1) < n - k; omega⟩
        · obtain ⟨x, hx⟩ : ∃ x : It, x = ⟨0, z, ByteArray.empty⟩ := ⟨_, rfl⟩
          by_cases hc : (it.length : Int) < room
          · have e1 : sendV room false it ⟨0, z, ByteArray.empty⟩ = it ++ [⟨0, z, ByteArray.empty⟩] := by unfold sendV; rw [if_neg (by decide), if_pos hc]
            have e2 : sendR room false it = 0 := by unfold sendR; rw [if_neg (by decide), if_pos hc]
            have hl1 : (it ++ [(⟨0, z, ByteArray.empty⟩ : It)]).length = it.length + 1 := by simp
            (conv => arg 5; whnf)
            refine wp_must ⟨by omega, by omega, hs.some hlt⟩ ?_
            (conv => arg 5; whnf)
            refine readP (n := n) (k := k) (j := k) (xs := ic l) (.int .i64 z) rfl (.tail _ (.tail _ (.head _))) hlt (hs.some hlt) hz2 (by rw [Nat.mul_one]; rfl) ?_
            (conv => arg 5; whnf)
            refine wp_both ?_ ?_
            rotate_left
            · (conv => arg 5; whnf)
              refine meet1G (f := 10) (n := (it ++ [(⟨0, z, ByteArray.empty⟩ : It)]).length) (v := fun a1 c1 => .tuple #[pv room false a1 (it ++ [(⟨0, z, ByteArray.empty⟩ : It)]).length c1, .int .i64 0]) (xs := cellsE (it ++ [(⟨0, z, ByteArray.empty⟩ : It)])) rfl (by kernel_rfl) (fun β ρ w' hM' => sendT room false pa it.length pc it w' hps rfl hro ⟨0, z, ByteArray.empty⟩ (by omega) (it ++ [(⟨0, z, ByteArray.empty⟩ : It)]).length (it ++ [(⟨0, z, ByteArray.empty⟩ : It)]) 0 rfl e1 e2 (hM'.at_ (.head _))) (fun y c_y h_y f_y => ?_)
              (conv => arg 5; whnf)
              refine wp_prim (.bool false) (fun w => nbool _ _ _ _ (by simp [hc]) w) ?_
              (conv => arg 5; whnf)
              refine wp_must ⟨by omega, by omega, hs.some hlt⟩ ?_
              (conv => arg 5; whnf)
              refine readP (n := n) (k := k) (j := k) (xs := ic l) (.int .i64 z) rfl (.tail _ (.tail _ (.tail _ (.head _)))) hlt (hs.some hlt) hz2 (by rw [Nat.mul_one]; rfl) ?_
              (conv => arg 5; whnf)
              refine wp_share fun u c_u h_u f_u => ?_
              (conv => arg 5; whnf)
              refine op_appendV (env_ok.keeps.open_ [1000000] false) (C := C) (ys := ys) (tt := tt) (u := .int .i64 z) (e := 3) (bytes := 8) [rowF (pt y (it ++ [(⟨0, z, ByteArray.empty⟩ : It)]).length) (cellsE (it ++ [(⟨0, z, ByteArray.empty⟩ : It)])), rowF (pt a n) (ic l)] (it ++ [(⟨0, z, ByteArray.empty⟩ : It)]).length hl1 rfl rfl rfl rfl (h_u.some (show 0 < 1 by decide)) (by exact (.head _)) rfl (by exact (.tail _ (.tail _ (.tail _ (.head _))))) hV (by omega) (by show it.length + 1 ≤ maxLen; unfold maxLen; omega) (by show (it.length + 1) * 8 ≤ _; omega) rfl (by exact hfsW (g0 := 0) hV (fun g hg => f_y _ (.tail _ (.head _)) g hg) hfr (.tail _ (.head _)) (.tail _ (.tail _ (.tail _ (.tail _ (.head _)))))) (fun a' c' t' C' ys' hV' hd => ?_)
              (conv => arg 5; whnf)
              refine wp_must ⟨by omega, by omega⟩ ?_
              (conv => arg 5; whnf)
              refine wp_end ⟨(k + 1, y, c_y, (it ++ [(⟨0, z, ByteArray.empty⟩ : It)]), a', c', t', C', ys'), ⟨hlt, h_y, hV', by rw [hd, ← hit]; simp [at_], by show (((it ++ [(⟨0, z, ByteArray.empty⟩ : It)]).length : Nat) : Int) ≤ room; rw [hl1]; omega, by show (it ++ [(⟨0, z, ByteArray.empty⟩ : It)]).length ≤ k + 1; rw [hl1]; omega⟩, ⟨by repeat' first | exact trivial | refine ⟨.inl rfl, ?_⟩ | refine ⟨.inr rfl, ?_⟩, ⟨by repeat' first | exact trivial | refine ⟨.inl rfl, ?_⟩ | refine ⟨.inr rfl, ?_⟩, by repeat' first | exact trivial | refine ⟨.inl rfl, ?_⟩ | refine ⟨.inr rfl, ?_⟩, fun φ h => by simp only [List.mem_cons, List.not_mem_nil, or_false] at h; rcases h with rfl | rfl | rfl; exact (.tail _ (.head _)); exact (.head _); exact (.tail _ (.tail _ (.head _)))⟩, rfl⟩, by show n - (k + 1) < n - k; omega⟩
            (conv => arg 5; whnf)
            refine meet1G (f := 10) (n := (it ++ [(⟨0, z, ByteArray.empty⟩ : It)]).length) (v := fun a1 c1 => .tuple #[pv room false a1 (it ++ [(⟨0, z, ByteArray.empty⟩ : It)]).length c1, .int .i64 0]) (xs := cellsE (it ++ [(⟨0, z, ByteArray.empty⟩ : It)])) rfl (by kernel_rfl) (fun β ρ w' hM' => sendT room false pa it.length pc it w' hps rfl hro ⟨0, z, ByteArray.empty⟩ (by omega) (it ++ [(⟨0, z, ByteArray.empty⟩ : It)]).length (it ++ [(⟨0, z, ByteArray.empty⟩ : It)]) 0 rfl e1 e2 (hM'.at_ (.head _))) (fun y c_y h_y f_y => ?_)
            (conv => arg 5; whnf)
            refine wp_prim (.bool false) (fun w => nbool _ _ _ _ (by simp [hc]) w) ?_
            (conv => arg 5; whnf)
            refine wp_must ⟨by omega, by omega, hs.some hlt⟩ ?_
            (conv => arg 5; whnf)
            refine readP (n := n) (k := k) (j := k) (xs := ic l) (.int .i64 z) rfl (.tail _ (.tail _ (.tail _ (.head _)))) hlt (hs.some hlt) hz2 (by rw [Nat.mul_one]; rfl) ?_
            (conv => arg 5; whnf)
            refine wp_share fun u c_u h_u f_u => ?_
            (conv => arg 5; whnf)
            refine op_appendV (env_ok.keeps.open_ [1000000] false) (C := C) (ys := ys) (tt := tt) (u := .int .i64 z) (e := 3) (bytes := 8) [rowF (pt y (it ++ [(⟨0, z, ByteArray.empty⟩ : It)]).length) (cellsE (it ++ [(⟨0, z, ByteArray.empty⟩ : It)])), rowF (pt a n) (ic l)] (it ++ [(⟨0, z, ByteArray.empty⟩ : It)]).length hl1 rfl rfl rfl rfl (h_u.some (show 0 < 1 by decide)) (by exact (.head _)) rfl (by exact (.tail _ (.tail _ (.tail _ (.head _))))) hV (by omega) (by show it.length + 1 ≤ maxLen; unfold maxLen; omega) (by show (it.length + 1) * 8 ≤ _; omega) rfl (by exact hfsW (g0 := 0) hV (fun g hg => f_y _ (.tail _ (.head _)) g hg) hfr (.tail _ (.head _)) (.tail _ (.tail _ (.tail _ (.tail _ (.head _)))))) (fun a' c' t' C' ys' hV' hd => ?_)
            (conv => arg 5; whnf)
            refine wp_must ⟨by omega, by omega⟩ ?_
            (conv => arg 5; whnf)
            refine wp_end ⟨(k + 1, y, c_y, (it ++ [(⟨0, z, ByteArray.empty⟩ : It)]), a', c', t', C', ys'), ⟨hlt, h_y, hV', by rw [hd, ← hit]; simp [at_], by show (((it ++ [(⟨0, z, ByteArray.empty⟩ : It)]).length : Nat) : Int) ≤ room; rw [hl1]; omega, by show (it ++ [(⟨0, z, ByteArray.empty⟩ : It)]).length ≤ k + 1; rw [hl1]; omega⟩, ⟨by repeat' first | exact trivial | refine ⟨.inl rfl, ?_⟩ | refine ⟨.inr rfl, ?_⟩, ⟨by repeat' first | exact trivial | refine ⟨.inl rfl, ?_⟩ | refine ⟨.inr rfl, ?_⟩, by repeat' first | exact trivial | refine ⟨.inl rfl, ?_⟩ | refine ⟨.inr rfl, ?_⟩, fun φ h => by simp only [List.mem_cons, List.not_mem_nil, or_false] at h; rcases h with rfl | rfl | rfl; exact (.tail _ (.head _)); exact (.head _); exact (.tail _ (.tail _ (.head _)))⟩, rfl⟩, by show n - (k + 1) < n - k; omega⟩
          · have e1 : sendV room false it ⟨0, z, ByteArray.empty⟩ = it := by unfold sendV; rw [if_neg (by decide), if_neg hc]
            have e2 : sendR room false it = 6 := by unfold sendR; rw [if_neg (by decide), if_neg hc]
            (conv => arg 5; whnf)
            refine wp_must ⟨by omega, by omega, hs.some hlt⟩ ?_
            (conv => arg 5; whnf)
            refine readP (n := n) (k := k) (j := k) (xs := ic l) (.int .i64 z) rfl (.tail _ (.tail _ (.head _))) hlt (hs.some hlt) hz2 (by rw [Nat.mul_one]; rfl) ?_
            (conv => arg 5; whnf)
            refine wp_both ?_ ?_
            rotate_left
            · (conv => arg 5; whnf)
              refine meet1G (f := 10) (n := it.length) (v := fun a1 c1 => .tuple #[pv room false a1 it.length c1, .int .i64 6]) (xs := cellsE it) rfl (by kernel_rfl) (fun β ρ w' hM' => sendT room false pa it.length pc it w' hps rfl hro ⟨0, z, ByteArray.empty⟩ (by omega) it.length it 6 rfl e1 e2 (hM'.at_ (.head _))) (fun y c_y h_y f_y => ?_)
              (conv => arg 5; whnf)
              refine wp_prim (.bool false) (fun w => nbool _ _ _ _ (by simp [hc]) w) ?_
              (conv => arg 5; whnf)
              refine wp_must ⟨by omega, by omega⟩ ?_
              (conv => arg 5; whnf)
              refine wp_end ⟨(k + 1, y, c_y, it, wa, wc, tt, C, ys), ⟨hlt, h_y, hV, hit, hir, by show it.length ≤ k + 1; omega⟩, ⟨by repeat' first | exact trivial | refine ⟨.inl rfl, ?_⟩ | refine ⟨.inr rfl, ?_⟩, ⟨by repeat' first | exact trivial | refine ⟨.inl rfl, ?_⟩ | refine ⟨.inr rfl, ?_⟩, by repeat' first | exact trivial | refine ⟨.inl rfl, ?_⟩ | refine ⟨.inr rfl, ?_⟩, fun φ h => by simp only [List.mem_cons, List.not_mem_nil, or_false] at h; rcases h with rfl | rfl | rfl; exact (.head _); exact (.tail _ (.tail _ (.head _))); exact (.tail _ (.tail _ (.tail _ (.head _))))⟩, rfl⟩, by show n - (k + 1) < n - k; omega⟩
            (conv => arg 5; whnf)
            refine meet1G (f := 10) (n := it.length) (v := fun a1 c1 => .tuple #[pv room false a1 it.length c1, .int .i64 6]) (xs := cellsE it) rfl (by kernel_rfl) (fun β ρ w' hM' => sendT room false pa it.length pc it w' hps rfl hro ⟨0, z, ByteArray.empty⟩ (by omega) it.length it 6 rfl e1 e2 (hM'.at_ (.head _))) (fun y c_y h_y f_y => ?_)
            (conv => arg 5; whnf)
            refine wp_prim (.bool false) (fun w => nbool _ _ _ _ (by simp [hc]) w) ?_
            (conv => arg 5; whnf)
            refine wp_must ⟨by omega, by omega⟩ ?_
            (conv => arg 5; whnf)
            refine wp_end ⟨(k + 1, y, c_y, it, wa, wc, tt, C, ys), ⟨hlt, h_y, hV, hit, hir, by show it.length ≤ k + 1; omega⟩, ⟨by repeat' first | exact trivial | refine ⟨.inl rfl, ?_⟩ | refine ⟨.inr rfl, ?_⟩, ⟨by repeat' first | exact trivial | refine ⟨.inl rfl, ?_⟩ | refine ⟨.inr rfl, ?_⟩, by repeat' first | exact trivial | refine ⟨.inl rfl, ?_⟩ | refine ⟨.inr rfl, ?_⟩, fun φ h => by simp only [List.mem_cons, List.not_mem_nil, or_false] at h; rcases h with rfl | rfl | rfl; exact (.head _); exact (.tail _ (.tail _ (.head _))); exact (.tail _ (.tail _ (.tail _ (.head _))))⟩, rfl⟩, by show n - (k + 1) < n - k; omega⟩
      · (conv => arg 5; whnf)
        refine meet1F (f := 14) (n := it.length) (v := fun a1 c1 => .tuple #[pv room true a1 it.length c1, .int .i64 0]) (xs := cellsE it) rfl (by kernel_rfl) (fun β ρ w' hM' => closeT room false pa it.length pc it w' hps rfl hro (by omega) 0 rfl (hM'.at_ (.head _))) (fun k c_k h_k f_k => ?_)
        (conv => arg 5; whnf)
        refine loop_rule (env_ok.keeps.open_ [1000000] false) [(10, (line [0, 1, 2, 3, 4, 5, 6, 7, 8, 9, 10, 11, 12, 13, 14, 15, 16, 17, 18, 19, 20, 21, 22, 23, 24, 25], [])), (15, (.one 0 (.one 1 (.one 2 (.one 3 (.one 4 (.one 5 (.fork 6 (.one 7 (.one 8 (.one 9 (.one 10 (.one 11 (.one 12 (.done))))))) 10 (.one 6 (.one 7 (.one 8 (.one 9 (.one 11 (.one 12 (.done))))))))))))), [])), (26, (line [0, 1, 2, 3, 4, 5, 6, 7, 8, 9, 10], []))] (schedQ_ok _ _ (by kernel_rfl)) (fun q : Nat × Option Addr × Nat × List It => q.1 ≤ it.length ∧ Sl q.2.1 q.2.2.2.length q.2.2.1 ∧ q.2.2.2 = it.drop q.1) (fun q => (⟨[some ([.v (.int .i64 room), .v (.bool false), .v (.slice pa it.length pc)], 31), some ([.v (.int .i64 room), .v (.bool true), .v (.slice q.2.1 q.2.2.2.length q.2.2.1)], 31)], [], [rowF (pt q.2.1 q.2.2.2.length) (cellsE q.2.2.2), wF (wa.map (·.block)) 3 C ys]⟩, sl 172 [(0, .v (.int .i64 room)), (1, .v (.slice a n c)), (4, .v (.bool false)), (5, .p 0 0), (7, .v (.slice wa it.length wc)), (14, .p 1 0), (15, .v (.int .i64 0)), (16, .v (.int .i64 (q.1 : Nat)))])) (fun q => it.length - q.1) (0, k, c_k, it) ⟨Nat.zero_le _, h_k, rfl⟩ ⟨by repeat' first | exact trivial | refine ⟨.inl rfl, ?_⟩ | refine ⟨.inr rfl, ?_⟩, ⟨by repeat' first | exact trivial | refine ⟨.inl rfl, ?_⟩ | refine ⟨.inr rfl, ?_⟩, by repeat' first | exact trivial | refine ⟨.inl rfl, ?_⟩ | refine ⟨.inr rfl, ?_⟩, fun φ h => by simp only [List.mem_cons, List.not_mem_nil, or_false] at h; rcases h with rfl | rfl; exact (.head _); exact (.tail _ (.tail _ (.head _)))⟩, rfl⟩ ?_
        rintro ⟨j, sa, sc, its⟩ ⟨hj, hss, hits⟩
        simp only [] at hj hss hits
        (conv => arg 5; whnf)
        refine wp_br (fun g5 => ?_) (fun g5 => ?_)
        · have hjl : j < it.length := by simp at g5; omega
          obtain ⟨x0, r, rfl⟩ : ∃ x0 r, its = x0 :: r := by cases its with | nil => (have := congrArg List.length hits; rw [List.length_drop] at this; simp at this; omega) | cons x0 r => exact ⟨x0, r, rfl⟩
          have hr0 : (x0 :: r).length = r.length + 1 := rfl
          have hle : (x0 :: r).length ≤ it.length := by rw [hits, List.length_drop]; omega
          have h8 : (it.drop j)[0]? = some x0 := by rw [← hits]; rfl
          have h9 : it[j]? = some x0 := by simpa using h8
          have hx0 : (ys.drop tt)[j]? = some (.int .i64 x0.a) := by rw [← hit, List.getElem?_map, h9]; rfl
          have htl : r = it.drop (j + 1) := by rw [← List.drop_drop, ← hits]; rfl
          (conv => arg 5; whnf)
          refine meet1F (f := 12) (n := r.length) (v := fun a1 c1 => .tuple #[pv room true a1 r.length c1, x0.val, .int .i64 0]) (xs := cellsE r) rfl (by kernel_rfl) (fun β ρ w' hM' => takeT room true sa (x0 :: r).length sc (x0 :: r) w' hss rfl hro (by omega) r.length r x0 0 rfl rfl rfl rfl (hM'.at_ (.head _))) (fun z c_z h_z f_z => ?_)
          (conv => arg 5; whnf)
          refine wp_must ⟨by omega, by show (j : Int) < (it.length : Nat); omega, wv_some hV (by omega)⟩ ?_
          (conv => arg 5; whnf)
          refine readV env_ok (a := wa) (c := wc) (tt := tt) (C := C) (ys := ys) (i := j) (.int .i64 x0.a) rfl (.tail _ (.tail _ (.head _))) hV hx0 (by rw [Nat.mul_one]; rfl) ?_
          (conv => arg 5; whnf)
          refine wp_br (fun g5 => by simp at g5) (fun _ => ?_)
          (conv => arg 5; whnf)
          refine wp_must ⟨by omega, by omega⟩ ?_
          (conv => arg 5; whnf)
          refine wp_end ⟨(j + 1, z, c_z, r), ⟨hjl, h_z, htl⟩, ⟨by repeat' first | exact trivial | refine ⟨.inl rfl, ?_⟩ | refine ⟨.inr rfl, ?_⟩, ⟨by repeat' first | exact trivial | refine ⟨.inl rfl, ?_⟩ | refine ⟨.inr rfl, ?_⟩, by repeat' first | exact trivial | refine ⟨.inl rfl, ?_⟩ | refine ⟨.inr rfl, ?_⟩, fun φ h => by simp only [List.mem_cons, List.not_mem_nil, or_false] at h; rcases h with rfl | rfl; exact (.head _); exact (.tail _ (.tail _ (.head _)))⟩, rfl⟩, by show it.length - (j + 1) < it.length - j; omega⟩
        · obtain rfl : its = [] := by rw [hits]; exact List.drop_eq_nil_of_le (by simp at g5; omega)
          (conv => arg 5; whnf)
          refine meet1F (f := 12) (n := 0) (v := fun a1 c1 => .tuple #[pv room true a1 0 c1, it0.val, .int .i64 8]) (xs := cellsE []) rfl (by kernel_rfl) (fun β ρ w' hM' => takeT room true sa 0 sc [] w' hss rfl hro (by decide) 0 [] it0 8 rfl rfl rfl rfl (hM'.at_ (.head _))) (fun z c_z h_z f_z => ?_)
          (conv => arg 5; whnf)
          refine meetc (f := 8) (v := .bool true) rfl (by kernel_rfl) (fun β ρ w' hM' => live w') ?_
          (conv => arg 5; whnf)
          exact wp_back fun β ρ w' hM' => ⟨rfl, hM'.below⟩
    · (conv => arg 5; whnf)
      refine wp_g0 (fun g9 => by simp at g2 g9; omega) (fun g9 => ?_)
      (conv => arg 5; whnf)
      refine meetc (f := 8) (v := .bool true) rfl (by kernel_rfl) (fun β ρ w' hM' => live w') ?_
      (conv => arg 5; whnf)
      exact wp_back fun β ρ w' hM' => ⟨rfl, hM'.below⟩
  · have hN : newV room = (0, 1) := if_neg hr
    (conv => arg 5; whnf)
    refine meetc (f := 16) (v := .tuple #[pv 0 false none 0 0, .int .i64 1]) rfl (by kernel_rfl) (fun β ρ w' hM' => newT room 0 1 w' hN) ?_
    (conv => arg 5; whnf)
    refine wp_g0 (fun g2 => ?_) (fun g2 => ?_)
    · (conv => arg 5; whnf)
      refine wp_g0 (fun g9 => ?_) (fun g9 => by simp at g2 g9; omega)
      (conv => arg 5; whnf)
      refine meetc (f := 8) (v := .bool true) rfl (by kernel_rfl) (fun β ρ w' hM' => live w') ?_
      (conv => arg 5; whnf)
      exact wp_back fun β ρ w' hM' => ⟨rfl, hM'.below⟩
    · (conv => arg 5; whnf)
      refine wp_g0 (fun g9 => by simp at g2 g9; omega) (fun g9 => ?_)
      (conv => arg 5; whnf)
      refine meetc (f := 8) (v := .bool true) rfl (by kernel_rfl) (fun β ρ w' hM' => live w') ?_
      (conv => arg 5; whnf)
      exact wp_back fun β ρ w' hM' => ⟨rfl, hM'.below⟩
end Go.Proofs.Ytoaohkllkooibaa.pipeRows
