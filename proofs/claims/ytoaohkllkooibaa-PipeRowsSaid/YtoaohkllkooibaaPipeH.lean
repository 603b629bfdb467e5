/- Layer 8 (pipe), by contract: Send, Take, Close, New. -/
import Derived.Test.YtoaohkllkooibaaPipeG
namespace Go.Proofs.Ytoaohkllkooibaa.pipe
open Go.RowKit Sx
set_option linter.unusedVariables false
set_option linter.unusedSimpArgs false
section
variable {P : Program} {W : World} {G : Option Nat} {Q : Ending → World → Prop} {ds : List Deferred}
theorem meetCh {f : FuncId} {args : List T} {l : List Value} {m : M} {k : Value → List Fact → Tree} {φ : Nat → Fact} (hv : valsOf args = some l) (hc : callable P f = true)
    (hC : ∀ β ρ w, Mem W G m β ρ w → Calls P f (List.toArray l) w fun e w' => ∃ g, e = .returned (.chan (some g)) ∧ Below w.heap.size w w' ∧ w.heap.size ≤ g ∧ ∃ o, w'.heap[g]? = some o ∧ (φ g).holds o) (hg : ∀ g, (φ g).g = some g)
    (h : ∀ g, W.heap.size ≤ g → (k (.chan (some g)) [φ g]).wpD P W G Q ds) : (Tree.call f args m k).wpD P W G Q ds :=
  meetR (ι := Nat) (ok := fun g => W.heap.size ≤ g) (v := fun g => .chan (some g)) (fs := fun g => [φ g]) hc (fun β ρ w vs hm hr => by
    rw [valsOf_spec _ _ _ hv hr]
    refine (hC β ρ w hm).mono fun e w' ⟨g, he, hb, hgw, ho⟩ => ⟨g, Nat.le_trans hm.grown.size hgw, he, hb, fun ψ hψ g' hg' => ?_⟩
    simp only [List.mem_singleton] at hψ
    subst hψ
    rw [hg] at hg'
    cases hg'
    exact ⟨hgw, ho⟩) (fun g hgW => h g hgW)
theorem meet1F {f : FuncId} {args : List Sx.T} {l : List Value} {m : M} {k : Value → List Fact → Tree} {n : Nat} {v : Option Addr → Nat → Value} {xs : List Value} (hv : valsOf args = some l) (hc : callable P f = true)
    (hC : ∀ β ρ w, Mem W G m β ρ w → Calls P f (List.toArray l) w fun e w' => ∃ i : One, Sl i.1 n i.2 ∧ Gives w w' e (v i.1 i.2) [rowF (pt i.1 n) xs]) (h : ∀ a c, Sl a n c → (∀ g, (rowF (pt a n) xs).g = some g → W.heap.size ≤ g) → (k (v a c) [rowF (pt a n) xs]).wpD P W G Q ds) : (Tree.call f args m k).wpD P W G Q ds :=
  meetR (ι := One) (ok := fun i => Sl i.1 n i.2 ∧ ∀ g, (rowF (pt i.1 n) xs).g = some g → W.heap.size ≤ g) (v := fun i => v i.1 i.2) (fs := fun i => [rowF (pt i.1 n) xs]) hc (fun β ρ w vs hm hr => by
    rw [valsOf_spec _ _ _ hv hr]
    refine (hC β ρ w hm).mono fun e w' ⟨i, hi, hg⟩ => ⟨i, ⟨hi, fun g hgg => Nat.le_trans hm.grown.size (hg.2.2 _ List.mem_cons_self g hgg).1⟩, hg⟩) (fun i hi => h i.1 i.2 hi.1 hi.2)
end
theorem capV_lt {room : Int} {n : Nat} : n < capV room n ↔ (n : Int) < room := by unfold capV; omega
def sendV (room : Int) (sh : Bool) (l : List It) (x : It) : List It := if sh = true then l else if (l.length : Int) < room then l ++ [x] else l
def sendR (room : Int) (sh : Bool) (l : List It) : Int := if sh = true then 8 else if (l.length : Int) < room then 0 else 6
def newV (x : Int) : Int × Int := if 1 ≤ x ∧ x ≤ 8 then (x, 0) else (0, 1)
set_option maxHeartbeats 4000000 in
set_option maxRecDepth 100000 in
theorem send (room : Int) (sh : Bool) (a : Option Addr) (n c : Nat) (l : List It) (x : It) (w : World) (hs : Sl a n c) (hn : n = l.length) (hrow : At w (pt a n) (cellsE l)) (hl : l.length ≤ 99999) (hro : Fits room) : Calls Try.prog 10 (List.toArray [pv room sh a n c, x.val]) w fun e w' =>  ∃ i : One, Sl i.1 (sendV room sh l x).length i.2 ∧ Gives w w' e (.tuple #[pv room sh i.1 (sendV room sh l x).length i.2, .int .i64 (sendR room sh l)]) [rowF (pt i.1 (sendV room sh l x).length) (cellsE (sendV room sh l x))] := by
  have hl : l.length ≤ 100000 := by omega
  cases sh with
  | true =>
    have e1 : sendV room true l x = l := rfl
    have e2 : sendR room true l = 8 := rfl
    rw [e1, e2]
    refine calls_of_exec ((env_ok.keeps).open_ [22, 21] false) Try.func10 rfl [] (schedQ_ok _ _ (by kernel_rfl)) [rowF (pt a n) (cellsE l)] (at1 hrow) ?_
    (conv => arg 5; whnf)
    refine meetCh (φ := fun g => chanI g (capV room n) l true) (l := [pv room true a n c]) rfl (by kernel_rfl) (fun β ρ w' hM' => filled room true a n c l w' hs hn (hM'.at_ (.head _)) hl hro) (fun g => rfl) (fun g hg => ?_)
    (conv => arg 5; whnf)
    refine op_turnF (ok := fun i : One => Sl i.1 (l).length i.2) (v := fun i => pv room true i.1 (l).length i.2) (ns := fun i => [rowF (pt i.1 (l).length) (cellsE (l))]) [] (φ := chanI g (capV room n) (l) true) (g := g) rfl rfl (by kernel_rfl) (by exact .head _) rfl (.inl hg) (by intro F hF; cases hF) (fun β ρ w' hM' => (emptied room true a n c g (capV room n) (l) true w' hl (hM'.fact _ (by exact .head _) g rfl).2).mono fun e w2 h => by obtain ⟨i, hi, he, hgr, hf⟩ := h; exact ⟨i, hi, he, hgr, fun ψ hψ => (by cases hψ), fun ψ hψ g' hg' => (by simp only [List.mem_singleton] at hψ; subst hψ; exact hf g' hg')⟩) (fun i h_i f_i => ?_)
    (conv => arg 5; whnf)
    exact wp_back fun β ρ w' hM' => ⟨i, h_i, rfl, hM'.below, fun φ hφ g' hg' => (by simp only [List.mem_singleton] at hφ; subst hφ; exact ⟨f_i _ (.head _) g' hg', (hM'.fact _ (by exact .head _) g' hg').2⟩)⟩
  | false =>
    have e1 : sendV room false l x = sendL (capV room n) l x := by unfold sendV sendL; rw [if_neg (by decide), ← hn]; by_cases hc : (n : Int) < room; (rw [if_pos hc, if_pos (capV_lt.2 hc)]); (rw [if_neg hc, if_neg (fun h => hc (capV_lt.1 h))])
    have e2 : sendR room false l = sendE (capV room n) l := by unfold sendR sendE; rw [if_neg (by decide), ← hn]; by_cases hc : (n : Int) < room; (rw [if_pos hc, if_pos (capV_lt.2 hc)]); (rw [if_neg hc, if_neg (fun h => hc (capV_lt.1 h))])
    have hl2 : (sendL (capV room n) l x).length ≤ 100000 := by unfold sendL; split; (rw [List.length_append]; simp only [List.length_singleton]; omega); omega
    rw [e1, e2]
    have SD := fun (g : Nat) (w : World) hch => send_ g (capV room n) l x w hch
    refine calls_of_exec ((env_ok.keeps).open_ [22, 21] false) Try.func10 rfl [] (schedQ_ok _ _ (by kernel_rfl)) [rowF (pt a n) (cellsE l)] (at1 hrow) ?_
    (conv => arg 5; whnf)
    refine meetCh (φ := fun g => chanI g (capV room n) l false) (l := [pv room false a n c]) rfl (by kernel_rfl) (fun β ρ w' hM' => filled room false a n c l w' hs hn (hM'.at_ (.head _)) hl hro) (fun g => rfl) (fun g hg => ?_)
    (conv => arg 5; whnf)
    refine op_turn (φ := chanI g (capV room n) l false) (g := g) rfl (l := [.chan (some g), x.val]) rfl (by kernel_rfl) (by exact .head _) rfl (.inl hg) (by intro F hF; cases hF) (fun β ρ w' hM' => (SD g w' (hM'.fact _ (by exact .head _) g rfl).2).mono fun e w2 h => ⟨_, [chanI g (capV room n) (sendL (capV room n) l x) false], h.1, h.2.1, fun ψ hψ => (by simp only [List.mem_singleton] at hψ; subst hψ; exact .inr ⟨rfl, h.2.2⟩), ?_⟩)
    (conv => arg 5; whnf)
    refine op_turnF (ok := fun i : One => Sl i.1 (sendL (capV room n) l x).length i.2) (v := fun i => pv room false i.1 (sendL (capV room n) l x).length i.2) (ns := fun i => [rowF (pt i.1 (sendL (capV room n) l x).length) (cellsE (sendL (capV room n) l x))]) [] (φ := chanI g (capV room n) (sendL (capV room n) l x) false) (g := g) rfl rfl (by kernel_rfl) (by exact .head _) rfl (.inl hg) (by intro F hF; cases hF) (fun β ρ w' hM' => (emptied room false a n c g (capV room n) (sendL (capV room n) l x) false w' hl2 (hM'.fact _ (by exact .head _) g rfl).2).mono fun e w2 h => by obtain ⟨i, hi, he, hgr, hf⟩ := h; exact ⟨i, hi, he, hgr, fun ψ hψ => (by cases hψ), fun ψ hψ g' hg' => (by simp only [List.mem_singleton] at hψ; subst hψ; exact hf g' hg')⟩) (fun i h_i f_i => ?_)
    (conv => arg 5; whnf)
    exact wp_back fun β ρ w' hM' => ⟨i, h_i, rfl, hM'.below, fun φ hφ g' hg' => (by simp only [List.mem_singleton] at hφ; subst hφ; exact ⟨f_i _ (.head _) g' hg', (hM'.fact _ (by exact .head _) g' hg').2⟩)⟩
set_option maxHeartbeats 4000000 in
set_option maxRecDepth 100000 in
theorem take (room : Int) (sh : Bool) (a : Option Addr) (n c : Nat) (l : List It) (w : World) (hs : Sl a n c) (hn : n = l.length) (hrow : At w (pt a n) (cellsE l)) (hl : l.length ≤ 100000) (hro : Fits room) : Calls Try.prog 12 (List.toArray [pv room sh a n c]) w fun e w' =>  ∃ i : One, Sl i.1 (l.tail).length i.2 ∧ Gives w w' e (.tuple #[pv room sh i.1 (l.tail).length i.2, (recvX l).val, .int .i64 (recvE l sh)]) [rowF (pt i.1 (l.tail).length) (cellsE (l.tail))] := by
  have RC := fun (g : Nat) (w : World) hch => receive_ g (capV room n) l sh w hch
  have hl2 : l.tail.length ≤ 100000 := by rw [List.length_tail]; omega
  generalize recvX l = x at *
  generalize recvE l sh = er at *
  refine calls_of_exec ((env_ok.keeps).open_ [23, 21] true) Try.func12 rfl [(3, (line [0, 1, 3, 4, 2, 5, 6, 7], [1, 2]))] (schedQ_ok _ _ (by kernel_rfl)) [rowF (pt a n) (cellsE l)] (at1 hrow) ?_
  (conv => arg 5; whnf)
  refine meetCh (φ := fun g => chanI g (capV room n) l sh) (l := [pv room sh a n c]) rfl (by kernel_rfl) (fun β ρ w' hM' => filled room sh a n c l w' hs hn (hM'.at_ (.head _)) hl hro) (fun g => rfl) (fun g hg => ?_)
  (conv => arg 5; whnf)
  refine op_turn (φ := chanI g (capV room n) l sh) (g := g) rfl (l := [.chan (some g)]) rfl (by kernel_rfl) (by exact .head _) rfl (.inl hg) (by intro F hF; cases hF) (fun β ρ w' hM' => (RC g w' (hM'.fact _ (by exact .head _) g rfl).2).mono fun e w2 h => ⟨_, [chanI g (capV room n) l.tail sh], h.1, h.2.1, fun ψ hψ => (by simp only [List.mem_singleton] at hψ; subst hψ; exact .inr ⟨rfl, h.2.2⟩), ?_⟩)
  (conv => arg 5; whnf)
  refine op_turnF (ok := fun i : One => Sl i.1 (l.tail).length i.2) (v := fun i => pv room sh i.1 (l.tail).length i.2) (ns := fun i => [rowF (pt i.1 (l.tail).length) (cellsE (l.tail))]) [] (φ := chanI g (capV room n) (l.tail) sh) (g := g) rfl rfl (by kernel_rfl) (by exact .head _) rfl (.inl hg) (by intro F hF; cases hF; exact ⟨_, .head _, rfl⟩) (fun β ρ w' hM' => (emptied room sh a n c g (capV room n) (l.tail) sh w' hl2 (hM'.fact _ (by exact .head _) g rfl).2).mono fun e w2 h => by obtain ⟨i, hi, he, hgr, hf⟩ := h; exact ⟨i, hi, he, hgr, fun ψ hψ => (by cases hψ), fun ψ hψ g' hg' => (by simp only [List.mem_singleton] at hψ; subst hψ; exact hf g' hg')⟩) (fun i h_i f_i => ?_)
  (conv => arg 5; whnf)
  exact wp_back fun β ρ w' hM' => ⟨i, h_i, rfl, hM'.below, fun φ hφ g' hg' => (by simp only [List.mem_singleton] at hφ; subst hφ; exact ⟨f_i _ (.head _) g' hg', (hM'.fact _ (by exact .head _) g' hg').2⟩)⟩
set_option maxHeartbeats 4000000 in
set_option maxRecDepth 100000 in
theorem close_ (room : Int) (sh : Bool) (a : Option Addr) (n c : Nat) (l : List It) (w : World) (hs : Sl a n c) (hn : n = l.length) (hrow : At w (pt a n) (cellsE l)) (hl : l.length ≤ 100000) (hro : Fits room) : Calls Try.prog 14 (List.toArray [pv room sh a n c]) w fun e w' =>  ∃ i : One, Sl i.1 (l).length i.2 ∧ Gives w w' e (.tuple #[pv room true i.1 (l).length i.2, .int .i64 (if sh = true then 8 else 0)]) [rowF (pt i.1 (l).length) (cellsE (l))] := by
  cases sh with
  | true =>
    have e1 : (if true = true then (8 : Int) else 0) = 8 := rfl
    rw [e1]
    refine calls_of_exec ((env_ok.keeps).open_ [21] false) Try.func14 rfl [(5, (lineT [0, 1, 4, 2] [3, 5, 6], []))] (schedQ_ok _ _ (by kernel_rfl)) [rowF (pt a n) (cellsE l)] (at1 hrow) ?_
    (conv => arg 5; whnf)
    refine meetCh (φ := fun g => chanI g (capV room n) l true) (l := [pv room true a n c]) rfl (by kernel_rfl) (fun β ρ w' hM' => filled room true a n c l w' hs hn (hM'.at_ (.head _)) hl hro) (fun g => rfl) (fun g hg => ?_)
    (conv => arg 5; whnf)
    refine op_turnF (ok := fun i : One => Sl i.1 (l).length i.2) (v := fun i => pv room true i.1 (l).length i.2) (ns := fun i => [rowF (pt i.1 (l).length) (cellsE (l))]) [] (φ := chanI g (capV room n) (l) true) (g := g) rfl rfl (by kernel_rfl) (by exact .head _) rfl (.inl hg) (by intro F hF; cases hF) (fun β ρ w' hM' => (emptied room true a n c g (capV room n) (l) true w' hl (hM'.fact _ (by exact .head _) g rfl).2).mono fun e w2 h => by obtain ⟨i, hi, he, hgr, hf⟩ := h; exact ⟨i, hi, he, hgr, fun ψ hψ => (by cases hψ), fun ψ hψ g' hg' => (by simp only [List.mem_singleton] at hψ; subst hψ; exact hf g' hg')⟩) (fun i h_i f_i => ?_)
    (conv => arg 5; whnf)
    exact wp_back fun β ρ w' hM' => ⟨i, h_i, rfl, hM'.below, fun φ hφ g' hg' => (by simp only [List.mem_singleton] at hφ; subst hφ; exact ⟨f_i _ (.head _) g' hg', (hM'.fact _ (by exact .head _) g' hg').2⟩)⟩
  | false =>
    have e1 : (if false = true then (8 : Int) else 0) = 0 := rfl
    rw [e1]
    refine calls_of_exec ((env_ok.keeps).open_ [21] false) Try.func14 rfl [(5, (lineT [0, 1, 4, 2] [3, 5, 6], []))] (schedQ_ok _ _ (by kernel_rfl)) [rowF (pt a n) (cellsE l)] (at1 hrow) ?_
    (conv => arg 5; whnf)
    refine meetCh (φ := fun g => chanI g (capV room n) l true) (l := [pv room true a n c]) rfl (by kernel_rfl) (fun β ρ w' hM' => filled room true a n c l w' hs hn (hM'.at_ (.head _)) hl hro) (fun g => rfl) (fun g hg => ?_)
    (conv => arg 5; whnf)
    refine op_turnF (ok := fun i : One => Sl i.1 (l).length i.2) (v := fun i => pv room true i.1 (l).length i.2) (ns := fun i => [rowF (pt i.1 (l).length) (cellsE (l))]) [] (φ := chanI g (capV room n) (l) true) (g := g) rfl rfl (by kernel_rfl) (by exact .head _) rfl (.inl hg) (by intro F hF; cases hF) (fun β ρ w' hM' => (emptied room true a n c g (capV room n) (l) true w' hl (hM'.fact _ (by exact .head _) g rfl).2).mono fun e w2 h => by obtain ⟨i, hi, he, hgr, hf⟩ := h; exact ⟨i, hi, he, hgr, fun ψ hψ => (by cases hψ), fun ψ hψ g' hg' => (by simp only [List.mem_singleton] at hψ; subst hψ; exact hf g' hg')⟩) (fun i h_i f_i => ?_)
    (conv => arg 5; whnf)
    exact wp_back fun β ρ w' hM' => ⟨i, h_i, rfl, hM'.below, fun φ hφ g' hg' => (by simp only [List.mem_singleton] at hφ; subst hφ; exact ⟨f_i _ (.head _) g' hg', (hM'.fact _ (by exact .head _) g' hg').2⟩)⟩
set_option maxHeartbeats 4000000 in
set_option maxRecDepth 100000 in
theorem new_ (x : Int) (w : World) : Calls Try.prog 16 (List.toArray [.int .i64 x]) w fun e w' =>  e = .returned (.tuple #[pv (newV x).1 false none 0 0, .int .i64 (newV x).2]) ∧ Below w.heap.size w w' := by
  refine calls_of_exec env_ok.keeps Try.func16 rfl [] (schedQ_ok _ _ (by kernel_rfl)) [] (by simp) ?_
  unfold newV
  (conv => arg 5; whnf)
  refine wp_g0 (fun h1 => ?_) (fun h1 => ?_)
  · (conv => arg 5; whnf)
    refine wp_br (fun h2 => ?_) (fun h2 => ?_)
    · rw [if_neg (by simp at h1 h2; omega)]
      (conv => arg 5; whnf)
      exact wp_back fun β ρ w' hM' => ⟨rfl, hM'.below⟩
    · rw [if_pos (by simp at h1 h2; omega)]
      (conv => arg 5; whnf)
      exact wp_back fun β ρ w' hM' => ⟨rfl, hM'.below⟩
  · rw [if_neg (by simp at h1; omega)]
    (conv => arg 5; whnf)
    exact wp_back fun β ρ w' hM' => ⟨rfl, hM'.below⟩
set_option maxHeartbeats 4000000 in
set_option maxRecDepth 100000 in
theorem rnew (x : Int) (w : World) : Calls Try.prog 17 (List.toArray [.int .i64 x]) w fun e w' =>  e = .returned (.tuple #[pv (newV x).1 false none 0 0, .int .i64 (newV x).2]) ∧ Below w.heap.size w w' := by
  refine calls_of_exec env_ok.keeps Try.func17 rfl [] (schedQ_ok _ _ (by kernel_rfl)) [] (by simp) ?_
  unfold newV
  (conv => arg 5; whnf)
  refine wp_g0 (fun h1 => ?_) (fun h1 => ?_)
  · (conv => arg 5; whnf)
    refine wp_br (fun h2 => ?_) (fun h2 => ?_)
    · rw [if_neg (by simp at h1 h2; omega)]
      (conv => arg 5; whnf)
      exact wp_back fun β ρ w' hM' => ⟨rfl, hM'.below⟩
    · rw [if_pos (by simp at h1 h2; omega)]
      (conv => arg 5; whnf)
      exact wp_back fun β ρ w' hM' => ⟨rfl, hM'.below⟩
  · rw [if_neg (by simp at h1; omega)]
    (conv => arg 5; whnf)
    exact wp_back fun β ρ w' hM' => ⟨rfl, hM'.below⟩
end Go.Proofs.Ytoaohkllkooibaa.pipe
