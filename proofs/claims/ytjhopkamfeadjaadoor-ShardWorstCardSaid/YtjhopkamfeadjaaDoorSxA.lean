/- Appends that are left open: the row is a block of which all is known. -/
import Derived.Test.YtjhopkamfeadjaaDoorSxO
namespace Go.Proofs.YtjhopkamfeadjaaDoor.Sx
open Go.RowKit
set_option linter.unusedVariables false
set_option linter.unusedSimpArgs false
section
variable {P : Program} {W : World} {G : Option Nat} {Q : Ending → World → Prop} {ds : List Deferred}
theorem vals_eqA {β ρ} : ∀ {l : List Value} {vs : List Value}, Rels β ρ (l.map T.v) vs → vs = l
  | [], vs, h => List.eq_nil_of_length_eq_zero h.1
  | x :: l, vs, h => by
    cases vs with
    | nil => have := h.1; simp at this
    | cons y vs =>
      obtain ⟨y', hy, hyr⟩ := h.2 0 _ rfl
      simp at hy
      subst hy
      have : Rels β ρ (l.map T.v) vs := ⟨by have := h.1; simpa using this, fun i x hx => by obtain ⟨u, hu, hur⟩ := h.2 (i + 1) x (by simpa using hx); exact ⟨u, by simpa using hu, hur⟩⟩
      rw [vals_eqA this]
      have e : y = x := hyr
      rw [e]
/-- A row of our own, as a fact. -/
def ownF (v : Value) (e : TypeId) (size n : Nat) (xs : List Value) : Fact := ⟨v.ownBlock, fun o => ∃ cap cur, v = .slice (some ⟨(v.ownBlock).getD 0, 0, none⟩) n cap ∧ o = .cells cur e (0, 0) ∧ n ≤ cap ∧ cap ≤ maxLen ∧ cur.size = cap * size ∧ cur.toList.take (n * size) = xs⟩
/-- Such a row's value. -/
def TV (W : World) (v : Value) (n : Nat) : Prop := (v = .slice none 0 0 ∧ n = 0) ∨ ∃ g cap, v = .slice (some ⟨g, 0, none⟩) n cap ∧ W.heap.size ≤ g
theorem tv_nil {W : World} : TV W (.slice none 0 0) 0 := .inl ⟨rfl, rfl⟩
theorem own_of_fact {m : M} {β ρ} {w : World} {v : Value} {e : TypeId} {size n : Nat} {xs : List Value} (h : Mem W G m β ρ w) (hF : ownF v e size n xs ∈ m.facts) (hV : TV W v n) (hl : xs.length = n * size) : w.ownsRow W.heap.size e size v n xs := by
  refine ⟨hl, ?_⟩
  rcases hV with hV | ⟨g, cap, rfl, hg⟩
  · exact .inl hV
  · obtain ⟨_, o, ho, cap', cur, h1, rfl, h2, h3, h4, h5⟩ := h.fact _ hF g rfl
    obtain rfl : cap = cap' := by simpa [Value.ownBlock] using h1
    exact .inr ⟨g, cap, cur, rfl, hg, ho, h2, h3, h4, h5⟩
theorem fact_of_own {w : World} {base : Nat} {v : Value} {e : TypeId} {size n : Nat} {xs : List Value} (h : w.ownsRow base e size v n xs) : ∀ g, (ownF v e size n xs).g = some g → base ≤ g ∧ ∃ o, w.heap[g]? = some o ∧ (ownF v e size n xs).holds o := by
  intro g hg
  rcases h.2 with ⟨rfl, _⟩ | ⟨g', cap, cur, rfl, h1, h2, h3, h4, h5, h6⟩
  · cases hg
  · have e1 : g' = g := by simpa [ownF, Value.ownBlock] using hg
    subst e1
    exact ⟨h1, _, h2, cap, cur, rfl, rfl, h3, h4, h5, h6⟩
theorem tv_of_own {w : World} {v : Value} {e : TypeId} {size n : Nat} {xs : List Value} (h : w.ownsRow W.heap.size e size v n xs) : TV W v n := by
  rcases h.2 with h | ⟨g', cap, cur, rfl, h1, _⟩
  · exact .inl h
  · exact .inr ⟨_, _, rfl, h1⟩
theorem op_append {E : Env} (hE : E.Ok P) {q : Option (List Fact)} {o : Oper} {m : M} {t : List T} {k : M → List T → T → Tree} {x y : Operand} {ty e : TypeId} {size bytes n b j : Nat} {v : Value} {xs news : List Value} {te : TypeId} (fs : List Fact)
    (ho : o.op = .call ⟨.builtin .append, #[x, y], #[ty, ty]⟩) (hrow : lk E.row ty = some (e, size, bytes)) (hx : ev t x = .v v) (hy : ev t y = .s b j) (hb : m.own[b]? = some (some (news.map T.v, te))) (hj : news.length = j * size)
    (hF : ownF v e size n xs ∈ m.facts) (hV : TV W v n) (hl : xs.length = n * size) (h63 : n + j ≤ maxLen) (hby : (n + j) * bytes ≤ 140737488355328)
    (hq : ∀ F, q = some F → v = .slice none 0 0 ∨ ∃ ψ ∈ F, ψ.g = v.ownBlock) (hfs : ∀ ψ ∈ fs, ψ ∈ m.facts ∧ ∀ g, ψ.g = some g → v.ownBlock ≠ some g)
    (h : ∀ v', TV W v' (n + j) → (k { m with facts := ownF v' e size (n + j) (xs ++ news) :: fs } t (.v v')).wpD P W G Q ds) : (Tree.op q o m t k).wpD P W G Q ds := by
  intro β ρ a w hm hr K Q' hK
  obtain ⟨dst, op, ty', pos, after, guard⟩ := o
  simp only at ho
  subst ho
  have h1 := hr.ev x
  rw [hx] at h1
  have h1 : a.eval x = v := h1
  have h2 := hr.ev y
  rw [hy] at h2
  obtain ⟨g2, hg2, h2⟩ := h2
  obtain ⟨g3, l, hg3, hw3, hr3, ho3⟩ := hm.own b _ te hb
  rw [hg2] at hg3
  cases hg3
  have hr3 := vals_eqA hr3
  subst hr3
  obtain ⟨ht, i, z, hi, hz, hsize, hbb, hzs, hsz⟩ := hE.row ty e size bytes hrow
  have hown := own_of_fact hm hF hV hl
  obtain ⟨v', w', hrun, hown', hgr, hwhere⟩ := append_run (P := P) (w := w) ty ty' e i z size bytes ht hi hz hsize hbb hzs hsz hown (some ⟨g2, 0, none⟩) j j l hj (fun a0 ha0 jj u hu => by
    cases ha0
    simp only [add_mk, World.cell?]
    rw [hw3]
    simpa using hu) ho3 (fun hn => by cases hn) h63 hby hm.grown.size
  unfold Oper.wp
  have : (execOp a.eval ⟨dst, .call ⟨.builtin .append, #[x, y], #[ty, ty]⟩, ty', pos, after, guard⟩).run P w = .ok (.value v') w' := by
    simp [execOp, resolve, invoke, builtin, h1, h2, hrun]
  rw [this]
  have hTV := tv_of_own hown'
  have hfo := fact_of_own hown'
  have hnew : ∀ {w0 : World}, w0 = w → ∀ g, (ownF v' e size (n + j) (xs ++ l)).g = some g → v'.ownBlock = some w.heap.size → Apart m β ρ g := fun _ g hg he => by
    have e1 : g = w.heap.size := by
      have : v'.ownBlock = some g := hg
      rw [he] at this
      exact (Option.some.inj this).symm
    exact hm.apart (.inr (.inl (by omega)))
  rcases hV with ⟨rfl, hn⟩ | ⟨g, cap, rfl, hgW⟩
  · have hbel : Below w.heap.size w w' := ⟨hgr.os, hgr.tape, hgr.output, hgr.size, fun k hk => hgr.block k hk (by simp [Value.ownBlock])⟩
    refine hK _ t (.v v') β ρ w' v' (h v' hTV) ?_ hr rfl (fun F hq => ⟨rfl, rfl, .inl hbel⟩)
    have h5 : Mem W G { m with facts := fs } β ρ w' := by
      have := hm.grow hbel
      exact ⟨this.grown, this.nd, this.bl, this.lo, this.own, this.rl, this.row, this.rb, this.rows, fun φ hφ => this.fact φ (hfs φ hφ).1⟩
    refine h5.learn [ownF v' e size (n + j) (xs ++ l)] fun φ hφ g hg => ?_
    simp only [List.mem_singleton] at hφ
    subst hφ
    refine ⟨?_, (hfo g hg).2⟩
    rcases hwhere with he | ⟨he, _⟩
    · have h7 : v'.ownBlock = some g := hg
      rw [he] at h7
      cases h7
    · exact hnew rfl g hg he
  · refine hK _ t (.v v') β ρ w' v' (h v' hTV) ?_ hr rfl (fun F hF' => ⟨rfl, rfl, .inr ?_⟩)
    · rcases hwhere with he | ⟨he, _⟩
      · refine hm.turn hF rfl (.inl hgW) hgr fun ψ hψ => ?_
        rcases List.mem_cons.1 hψ with rfl | hψ
        · exact .inr ⟨he, (hfo g he).2⟩
        · refine .inl ⟨(hfs ψ hψ).1, fun hg => (hfs ψ hψ).2 g hg rfl⟩
      · have h5 : Mem W G { m with facts := fs } β ρ w' := hm.turn hF rfl (.inl hgW) hgr fun ψ hψ => .inl ⟨(hfs ψ hψ).1, fun hg => (hfs ψ hψ).2 g hg rfl⟩
        refine h5.learn [ownF v' e size (n + j) (xs ++ l)] fun φ hφ g hg => ?_
        simp only [List.mem_singleton] at hφ
        subst hφ
        exact ⟨hnew rfl g hg he, (hfo g hg).2⟩
    · rcases hq F hF' with h | ⟨ψ, h1, h2⟩
      · cases h
      · exact ⟨ψ, h1, g, h2, .inl hgW, hgr⟩
end
end Go.Proofs.YtjhopkamfeadjaaDoor.Sx
