/- Calls, met by their contracts. -/
import Derived.Test.YtoaohkllkooibaaPt
namespace Go.Proofs.Ytoaohkllkooibaa.Sx
open Go.RowKit
set_option linter.unusedVariables false
/-- A state's slots, given by their places. -/
def sl (n : Nat) (l : List (Nat × T)) : List T := l.foldl (fun t p => t.set p.1 p.2) (anys n)
theorem retB {x y : Bool} (h : x = y) : Ending.returned (tup [.bool x]) = .returned (.bool y) := by rw [h]; rfl
theorem retI {x y : Int} (h : x = y) : Ending.returned (tup [.int .i64 x]) = .returned (.int .i64 y) := by rw [h]; rfl
theorem retII {x y x' y' : Int} (h : x = x') (h' : y = y') : Ending.returned (tup [.int .i64 x, .int .i64 y]) = .returned (.tuple #[.int .i64 x', .int .i64 y']) := by rw [h, h']; rfl
theorem retVI {x x' : Value} {y y' : Int} (h : x = x') (h' : y = y') : Ending.returned (tup [x, .int .i64 y]) = .returned (.tuple #[x', .int .i64 y']) := by rw [h, h']; rfl
@[simp] theorem tup1 (v : Value) : tup [v] = v := rfl
@[simp] theorem tup2 (u v : Value) : tup [u, v] = .tuple #[u, v] := rfl
@[simp] theorem tup3 (u v x : Value) : tup [u, v, x] = .tuple #[u, v, x] := rfl
section
variable {P : Program} {W : World} {G : Option Nat} {Q : Ending → World → Prop} {ds : List Deferred}
/-- A call of which all arguments are values, and whose answer is known. -/
theorem meetc {f : FuncId} {args : List T} {l : List Value} {m : M} {k : Value → List Fact → Tree} {v : Value} (hv : valsOf args = some l) (hc : callable P f = true)
    (hC : ∀ β ρ w, Mem W G m β ρ w → Calls P f (List.toArray l) w fun e w' => e = .returned v ∧ Below w.heap.size w w') (h : (k v []).wpD P W G Q ds) : (Tree.call f args m k).wpD P W G Q ds :=
  meet v hc (fun β ρ w vs hm hr => by rw [valsOf_spec _ _ _ hv hr]; exact hC β ρ w hm) h
theorem wp_both {x y : Tree} (h : x.wpD P W G Q ds) (h' : y.wpD P W G Q ds) : (Tree.both x y).wpD P W G Q ds := ⟨h, h'⟩
end
section
variable {W : World} {G : Option Nat} {Q : Ending → World → Prop} {ds : List Deferred}
/-- A cell of a row that came in. -/
theorem readP {ty : TypeId} {a : Option Addr} {n k j : Nat} {ad : Addr} {xs : List Value} {m : M} {K : Value → Tree} (v : Value) (hty : lk env.agg ty = some none) (hm : rowF (pt a n) xs ∈ m.facts) (hk : k < n) (ha : a.isSome = true) (hv : xs[j]? = some v) (haddr : ad = (a.getD ⟨0, 0, none⟩).add j) (h : (K v).wpD Try.prog W G Q ds) : (Tree.load ty ad m K).wpD Try.prog W G Q ds := by
  obtain ⟨ad', rfl⟩ := Option.isSome_iff_exists.1 ha
  rw [pt_pos hk] at hm
  exact readC v hty hm hv haddr h
end
end Go.Proofs.Ytoaohkllkooibaa.Sx
