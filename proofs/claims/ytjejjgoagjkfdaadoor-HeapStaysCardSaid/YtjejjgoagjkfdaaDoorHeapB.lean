/- Layer 6 (heap): who rises, by contract. -/
import Derived.Test.YtjejjgoagjkfdaaDoorHeapA
import Derived.Test.YtjejjgoagjkfdaaDoorMeet2
namespace Go.Proofs.YtjejjgoagjkfdaaDoor.heap
open Go.RowKit Sx txn queue
set_option linter.unusedVariables false
set_option linter.unusedSimpArgs false
theorem nx_take {l : List Tx} {i k : Nat} (h : i < k) : nx (l.take k) i = nx l i := by
  unfold nx
  rw [List.getD_eq_getElem?_getD, List.getD_eq_getElem?_getD, List.getElem?_take, if_pos h]
theorem mem_take {l : List Tx} {k : Nat} {x : Tx} (h : x ∈ l.take k) : x ∈ l := List.mem_of_mem_take h
/-- Who is better than who stands above rises. -/
def upGo : Nat → List Tx → Nat → List Tx
  | 0, l, _ => l
  | f + 1, l, i => if i = 0 then l else if betterV (nx l i) (nx l ((i - 1) / 2)) then upGo f (swp l i ((i - 1) / 2)) ((i - 1) / 2) else l
def upL (k : Nat) (l : List Tx) : List Tx := upGo k l (k - 1)
theorem upGo_enough : ∀ (i f : Nat) (l : List Tx), i < f → upGo f l i = upGo (i + 1) l i := by
  intro i
  induction i using Nat.strongRecOn with
  | ind i ih =>
    intro f l hf
    cases f with
    | zero => omega
    | succ f =>
      unfold upGo
      by_cases h0 : i = 0
      · rw [if_pos h0, if_pos h0]
      · rw [if_neg h0, if_neg h0]
        split
        · rw [ih ((i - 1) / 2) (by omega) f _ (by omega), ih ((i - 1) / 2) (by omega) i _ (by omega)]
        · rfl
theorem upGo_step (l : List Tx) (i : Nat) (h0 : 0 < i) (hb : betterV (nx l i) (nx l ((i - 1) / 2)) = true) : upGo (i + 1) l i = upGo ((i - 1) / 2 + 1) (swp l i ((i - 1) / 2)) ((i - 1) / 2) := by
  conv => lhs; unfold upGo
  rw [if_neg (by omega), if_pos hb, upGo_enough ((i - 1) / 2) i _ (by omega)]
theorem upGo_stop (l : List Tx) (i : Nat) (h : i = 0 ∨ betterV (nx l i) (nx l ((i - 1) / 2)) = false) : upGo (i + 1) l i = l := by
  unfold upGo
  by_cases h0 : i = 0
  · rw [if_pos h0]
  · rw [if_neg h0, if_neg (by rw [h.resolve_left h0]; simp)]
theorem upGo_length : ∀ (f : Nat) (l : List Tx) (i : Nat), (upGo f l i).length = l.length
  | 0, l, i => rfl
  | f + 1, l, i => by
    unfold upGo
    split
    · rfl
    · split
      · rw [upGo_length, swp_length]
      · rfl
theorem upL_length (k : Nat) (l : List Tx) : (upL k l).length = l.length := upGo_length _ _ _
theorem swp_mem {l : List Tx} {i j : Nat} (hi : i < l.length) (hj : j < l.length) : ∀ x ∈ swp l i j, x ∈ l := by
  intro x hx
  unfold swp at hx
  rcases List.mem_or_eq_of_mem_set hx with hx | rfl
  · rcases List.mem_or_eq_of_mem_set hx with hx | rfl
    · exact hx
    · exact nx_mem hj
  · exact nx_mem hi
/-- Two are swapped. -/
theorem op_swap {W : World} {G : Option Nat} {Q : Ending → World → Prop} {ds : List Deferred} {o : Oper} {m : M} {t : List T} {K : M → List T → T → Tree} {r : Operand} {args : Array Operand} {tys : Array TypeId} {g k c i j : Nat} {l : List Tx} {rest : List Value}
    (ho : o.op = .call ⟨.invoke r "Swap", args, tys⟩) (hr0 : ev t r = .v (.iface 74 (.slice (some ⟨g, 0, none⟩) k c))) (hv : valsOf (args.toList.map (ev t)) = some [.int .i64 i, .int .i64 j]) (hm : blkF g l rest ∈ m.facts) (hW : W.heap.size ≤ g ∨ some g = G)
    (hs : Sl (some ⟨g, 0, none⟩) k c) (hkl : k ≤ l.length) (hi : i < k) (hj : j < k) (h : (K { m with facts := [blkF g (swp l i j) rest] } t (.v (.tuple #[]))).wpD Tryd.prog W G Q ds) : (Tree.op none o m t K).wpD Tryd.prog W G Q ds :=
  op_invoke (g := 126) ho hr0 (env_ok.meth _ _ _ rfl _) hv (by kernel_rfl) fun β ρ w hM =>
    (swap_ l rest g k c i j w (blk hM hm) hs hkl hi hj).mono fun e w' ⟨he, hgr, hb⟩ => ⟨_, _, he, hM.turn hm rfl hW hgr (fs := [blkF g (swp l i j) rest]) (fun ψ hψ => by
      simp only [List.mem_singleton] at hψ
      subst hψ
      exact .inr ⟨rfl, _, hb, rfl⟩), h⟩
set_option maxHeartbeats 4000000 in
set_option maxRecDepth 100000 in
theorem up_ (l : List Tx) (rest : List Value) (g k c : Nat) (w : World) (hM : Most w) (hg0 : 0 < g) (hb : Blk w g l rest) (hs : Sl (some ⟨g, 0, none⟩) k c) (h1 : 1 ≤ k) (hkl : k ≤ l.length) (hk : l.length ≤ 1000000) (hd : ∀ x ∈ l, x.d.size ≤ maxLen) :
    Calls Tryd.prog 76 (List.toArray [.iface 74 (.slice (some ⟨g, 0, none⟩) k c)]) w fun e w' => e = .returned (.tuple #[]) ∧ w.grownBy w' (some g) ∧ Blk w' g (upL k l) rest := by
  have BT := fun (l' : List Tx) (hd : ∀ x ∈ l', x.d.size ≤ maxLen) (hl : k ≤ l'.length) (i j : Nat) (hi : i < k) (hj : j < k) w hM (hb : Blk w g l' rest) => better_ (l'.take k) (some ⟨g, 0, none⟩) k c i j w hM hs (by rw [List.length_take]; omega) hi hj (fun x hx => hd x (mem_take hx)) (hb.view k)
  refine calls_of_turn env_ok Tryd.func76 rfl [(1, (line [0, 1, 2, 3, 4, 5, 7, 8, 9, 6, 10, 11, 12], [])), (2, (lineT [0, 1, 2, 4, 5, 6, 3] [7], []))] (schedQ_ok _ _ (by kernel_rfl)) (some g) [blkF g l rest] hb.facts ?_
  (conv => arg 5; whnf)
  refine scope_rule env_ok [(1, (line [0, 1, 2, 3, 4, 5, 7, 8, 9, 6, 10, 11, 12], [])), (2, (lineT [0, 1, 2, 4, 5, 6, 3] [7], []))] 0 rfl (schedQ_ok _ _ (by kernel_rfl)) (schedQ_ok _ _ (by kernel_rfl)) (fun q : List Tx × Nat => q.2 < k ∧ q.1.length = l.length ∧ (∀ x ∈ q.1, x.d.size ≤ maxLen) ∧ upGo (q.2 + 1) q.1 q.2 = upL k l) (fun q => (⟨[], [], [blkF g q.1 rest]⟩, sl 29 [(0, .v (.iface 74 (.slice (some ⟨g, 0, none⟩) k c))), (2, .v (.int .i64 q.2))])) (fun q => q.2) (k + 1) ?_ ?_
  · have ek : (k : Int) - 1 = ((k - 1 : Nat) : Int) := by omega
    have hlen : l.length = l.length := rfl
    have hdl := hd
    have hup : upGo (k - 1 + 1) l (k - 1) = upL k l := by unfold upL; rw [show k - 1 + 1 = k by omega]
    (conv => arg 5; whnf)
    refine meetc (v := .int .i64 k) rfl (by kernel_rfl) (fun β ρ w' hM' => len_ (some ⟨g, 0, none⟩) k c w') ?_
    (conv => arg 5; whnf)
    refine wp_must ⟨by omega, by omega⟩ ?_
    rw [ek]
    generalize hi : k - 1 = i at *
    (conv => arg 5; whnf)
    refine wp_g0 (fun h2 => ?_) (fun h2 => ?_)
    · have hpos : 0 < i := by simp at h2; omega
      (conv => arg 5; whnf)
      refine wp_prim (.func (.method "Better") #[.iface 74 (.slice (some ⟨g, 0, none⟩) k c)] #[]) (fun w => by kernel_rfl) ?_
      (conv => arg 5; whnf)
      refine meetc (v := .int .i64 (((i - 1) / 2 : Nat) : Int)) rfl (by kernel_rfl) (fun β ρ w' hM' => above_ i (by omega) (by omega) w') ?_
      (conv => arg 5; whnf)
      refine meetc (v := .bool (betterV (nx l i) (nx l ((i - 1) / 2)))) rfl (by kernel_rfl) (fun β ρ w' hM' => (by have := BT l hdl (by omega) i ((i - 1) / 2) (by omega) (by omega) w' (Most.turned hM hM'.grown hg0) (blk hM' (.head _)); rw [nx_take (by omega), nx_take (by omega)] at this; exact this)) ?_
      (conv => arg 5; whnf)
      refine wp_br (fun h3 => ?_) (fun h3 => ?_)
      · (conv => arg 5; whnf)
        exact wp_back fun β ρ w' hM' => ⟨rfl, hM'.grown, by rw [← hup, upGo_stop l i (.inr (by simpa using h3))]; exact blk hM' (.head _)⟩
      · have hbt : betterV (nx l i) (nx l ((i - 1) / 2)) = true := by simpa using h3
        (conv => arg 5; whnf)
        refine wp_prim (.func (.method "Swap") #[.iface 74 (.slice (some ⟨g, 0, none⟩) k c)] #[]) (fun w => by kernel_rfl) ?_
        (conv => arg 5; whnf)
        refine meetc (v := .int .i64 (((i - 1) / 2 : Nat) : Int)) rfl (by kernel_rfl) (fun β ρ w' hM' => above_ i (by omega) (by omega) w') ?_
        (conv => arg 5; whnf)
        refine op_swap (i := i) (j := (i - 1) / 2) (l := l) rfl rfl rfl (.head _) (.inr rfl) hs (by omega) (by omega) (by omega) ?_
        (conv => arg 5; whnf)
        refine meetc (v := .int .i64 (((i - 1) / 2 : Nat) : Int)) rfl (by kernel_rfl) (fun β ρ w' hM' => above_ i (by omega) (by omega) w') ?_
        (conv => arg 5; whnf)
        refine wp_end ⟨rfl, (swp l i ((i - 1) / 2), (i - 1) / 2), ⟨by show (i - 1) / 2 < k; omega, (swp_length _ _ _).trans hlen, fun x hx => hdl x (swp_mem (by omega) (by omega) x hx), by rw [← hup, upGo_step l i hpos hbt]⟩, ⟨by repeat' first | exact trivial | refine ⟨.inl rfl, ?_⟩ | refine ⟨.inr rfl, ?_⟩, ⟨by repeat' first | exact trivial | refine ⟨.inl rfl, ?_⟩ | refine ⟨.inr rfl, ?_⟩, by repeat' first | exact trivial | refine ⟨.inl rfl, ?_⟩ | refine ⟨.inr rfl, ?_⟩, fun _ h => h⟩, rfl⟩, by show (i - 1) / 2 < k + 1; omega⟩
    · (conv => arg 5; whnf)
      exact wp_back fun β ρ w' hM' => ⟨rfl, hM'.grown, by rw [← hup, upGo_stop l i (.inl (by simp at h2; omega))]; exact blk hM' (.head _)⟩
  · rintro ⟨l', i⟩ ⟨hik, hlen, hdl, hup⟩
    have hik : i < k := hik
    have hlen : l'.length = l.length := hlen
    have hdl : ∀ x ∈ l', x.d.size ≤ maxLen := hdl
    have hup : upGo (i + 1) l' i = upL k l := hup
    (conv => arg 5; whnf)
    refine wp_g0 (fun h2 => ?_) (fun h2 => ?_)
    · have hpos : 0 < i := by simp at h2; omega
      (conv => arg 5; whnf)
      refine wp_prim (.func (.method "Better") #[.iface 74 (.slice (some ⟨g, 0, none⟩) k c)] #[]) (fun w => by kernel_rfl) ?_
      (conv => arg 5; whnf)
      refine meetc (v := .int .i64 (((i - 1) / 2 : Nat) : Int)) rfl (by kernel_rfl) (fun β ρ w' hM' => above_ i (by omega) (by omega) w') ?_
      (conv => arg 5; whnf)
      refine meetc (v := .bool (betterV (nx l' i) (nx l' ((i - 1) / 2)))) rfl (by kernel_rfl) (fun β ρ w' hM' => (by have := BT l' hdl (by omega) i ((i - 1) / 2) (by omega) (by omega) w' (Most.turned hM hM'.grown hg0) (blk hM' (.head _)); rw [nx_take (by omega), nx_take (by omega)] at this; exact this)) ?_
      (conv => arg 5; whnf)
      refine wp_br (fun h3 => ?_) (fun h3 => ?_)
      · (conv => arg 5; whnf)
        exact wp_back fun β ρ w' hM' => ⟨rfl, hM'.grown, by rw [← hup, upGo_stop l' i (.inr (by simpa using h3))]; exact blk hM' (.head _)⟩
      · have hbt : betterV (nx l' i) (nx l' ((i - 1) / 2)) = true := by simpa using h3
        (conv => arg 5; whnf)
        refine wp_prim (.func (.method "Swap") #[.iface 74 (.slice (some ⟨g, 0, none⟩) k c)] #[]) (fun w => by kernel_rfl) ?_
        (conv => arg 5; whnf)
        refine meetc (v := .int .i64 (((i - 1) / 2 : Nat) : Int)) rfl (by kernel_rfl) (fun β ρ w' hM' => above_ i (by omega) (by omega) w') ?_
        (conv => arg 5; whnf)
        refine op_swap (i := i) (j := (i - 1) / 2) (l := l') rfl rfl rfl (.head _) (.inr rfl) hs (by omega) (by omega) (by omega) ?_
        (conv => arg 5; whnf)
        refine meetc (v := .int .i64 (((i - 1) / 2 : Nat) : Int)) rfl (by kernel_rfl) (fun β ρ w' hM' => above_ i (by omega) (by omega) w') ?_
        (conv => arg 5; whnf)
        refine wp_end ⟨rfl, (swp l' i ((i - 1) / 2), (i - 1) / 2), ⟨by show (i - 1) / 2 < k; omega, (swp_length _ _ _).trans hlen, fun x hx => hdl x (swp_mem (by omega) (by omega) x hx), by rw [← hup, upGo_step l' i hpos hbt]⟩, ⟨by repeat' first | exact trivial | refine ⟨.inl rfl, ?_⟩ | refine ⟨.inr rfl, ?_⟩, ⟨by repeat' first | exact trivial | refine ⟨.inl rfl, ?_⟩ | refine ⟨.inr rfl, ?_⟩, by repeat' first | exact trivial | refine ⟨.inl rfl, ?_⟩ | refine ⟨.inr rfl, ?_⟩, fun _ h => h⟩, rfl⟩, by show (i - 1) / 2 < i; omega⟩
    · (conv => arg 5; whnf)
      exact wp_back fun β ρ w' hM' => ⟨rfl, hM'.grown, by rw [← hup, upGo_stop l' i (.inl (by simp at h2; omega))]; exact blk hM' (.head _)⟩
end Go.Proofs.YtjejjgoagjkfdaaDoor.heap
