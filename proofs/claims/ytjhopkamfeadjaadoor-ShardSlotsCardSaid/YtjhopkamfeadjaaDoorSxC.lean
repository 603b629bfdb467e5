/- Arrays that are built. -/
import Derived.Test.YtjhopkamfeadjaaDoorSxEnv
namespace Go.Proofs.YtjhopkamfeadjaaDoor.Sx
open Go.RowKit
set_option linter.unusedVariables false
set_option linter.unusedSimpArgs false
theorem fill_more {f g : Nat → Option (Nat × Nat)} (h : ∀ i q, f i = some q → g i = some q) : ∀ (parts : List (Nat × Value)) (z c : Array Value), Instr.fill f z parts = some c → Instr.fill g z parts = some c
  | [], z, c, hc => hc
  | (i, v) :: rest, z, c, hc => by
    unfold Instr.fill at hc ⊢
    cases hf : f i with
    | none => rw [hf] at hc; cases hc
    | some q =>
      rw [hf] at hc
      rw [h i q hf]
      obtain ⟨off, size⟩ := q
      simp only [] at hc ⊢
      split at hc
      · cases hc
      · rename_i hn
        rw [if_neg hn]
        exact fill_more h rest _ _ hc
theorem built_array {P : Program} {ty e : TypeId} {n s : Nat} {zc : List Value} {pl : List (Nat × Nat)} (h1 : P.underlying ty = some (.array n e)) (h2 : ∀ w, (zeroValue ty).run P w = .ok (.agg zc.toArray) w) (h3 : ∀ w, (sizeOf e).run P w = .ok s w)
    (hp : ∀ i q, nth pl i = some q → q = (i * s, s)) (parts : Array (Nat × Value)) (c : Array Value) (hc : Instr.fill (nth pl) zc.toArray parts.toList = some c) (w : World) : (Instr.build ty parts).run P w = .ok (.agg c) w := by
  have hc2 := fill_more (g := fun i => some (i * s, s)) (fun i q hq => by rw [hp i q hq]) _ _ _ hc
  simp only [Instr.build, Sem.run_bind, h2, Result.andThen_ok, run_underlying h1, h3, Value.cells, hc2, Sem.run_pure]
theorem Env.Ok.strA {E : Env} {P : Program} (hE : E.Ok P) (ty : TypeId) (cs : List T) (pl : List (Nat × Nat)) (zc : List Value) (hr : Rels [] [] cs zc) (h : ∀ (parts : Array (Nat × Value)) (c : Array Value), Instr.fill (nth pl) zc.toArray parts.toList = some c → ∀ w, (Instr.build ty parts).run P w = .ok (.agg c) w) :
    ({ E with str := (ty, (cs, pl)) :: E.str } : Env).Ok P :=
  ⟨hE.zero, hE.agg1, hE.aggN, hE.off, hE.row, fun ty' cs' places h' => by
    simp only [lk] at h'
    cases hb : (ty == ty') with
    | true =>
      rw [hb] at h'
      have e : ty = ty' := by simpa using hb
      subst e
      cases h'
      exact ⟨zc, hr, h⟩
    | false => rw [hb] at h'; exact hE.str ty' cs' places h', hE.strs, hE.ints, hE.size, hE.mixed, hE.row1, hE.meth, hE.arr⟩
end Go.Proofs.YtjhopkamfeadjaaDoor.Sx
