/- What holds between the steps of hopperlaw01.SatPairs. -/
import Derived.Test.YthjlilepialmoaaPairs
import Derived.OwnWalk
import Derived.Laws.AppendOwnNone
import Derived.Deep.RegionHeld3
import Derived.Deep.AppendLies
import Derived.StillTailTactics
import Derived.WalkSpells
namespace Go.Proofs.Ythjlilepialmoaa.satPairs
open Go.RowKit Go.ChangeShapes Go.WideShapes sat satTotals
set_option linter.unusedVariables false

theorem infoP : (Try.prog.info? 29).map (fun i => (i.zero, i.size, i.bytes)) = some (some (.agg #[.int .i64 0, .int .i64 0]), 2, 16) := by kernel_rfl

/-- What Totals comes to at every row that is owned. -/
abbrev OwnIs (L : PL) (tx ty : Int) (tb : Bool) : Prop :=
  ∀ v base w, w.ownsRow base 29 2 v L.length (cellsL L) → Calls Try.prog 24 #[v] w fun e w' => e = .returned (.tuple #[.agg #[.int .i64 tx, .int .i64 ty], .bool tb]) ∧ Below w.heap.size w w'

theorem own_of (L : PL) : OwnIs L (totX L.length (Lx L) (Ly L)) (totY L.length (Lx L) (Ly L)) (totB L.length (Lx L) (Ly L)) := by
  intro v base w h
  obtain ⟨a, cap, rfl, hr⟩ := row_of_owns h
  exact totals_any a L.length cap (Lx L) (Ly L) w hr

theorem take_len {L : PL} {k : Nat} (hk : k ≤ L.length) : (cellsL (L.take k)).length = k * 2 := by rw [cellsL_len]; simp; omega

/-- What holds behind the first append. -/
structure First (w w1 W : World) (v : Value) (b off : Nat) (n : Nat) (L M : PL) (tx ty : Int) : Prop where
  old : w.heap.size ≤ w1.heap.size
  below : Below w.heap.size w W
  size : w1.heap.size + 1 ≤ W.heap.size
  own : W.ownsRow (w1.heap.size + 1) 29 2 v n (cellsL M)
  c0 : W.cell? ⟨w1.heap.size, 0, none⟩ = some (.int .i64 tx)
  c1 : W.cell? ⟨w1.heap.size, 1, none⟩ = some (.int .i64 ty)
  news : ∀ k, k ≤ L.length → ∀ j u, (cellsL (L.take k))[j]? = some u → W.cell? ((⟨b, off, none⟩ : Addr).add j) = some u

theorem first_done {w w1 W1 W2 : World} {v0 v : Value} {b off k n : Nat} {L : PL} {tx ty : Int} (hr : Row w (some ⟨b, off, none⟩) L.length (Lx L) (Ly L)) (bs : w.heap.size ≤ w1.heap.size)
    (B1 : Below w.heap.size w W1) (A1 : Below (w1.heap.size + 1) (w1.alloc (.cells #[.int .i64 tx, .int .i64 ty] 29 (0, 0))) W1) (h0 : v0.ownBlock = some (w1.heap.size + 1)) (hs : w1.heap.size + 2 ≤ W1.heap.size)
    (gr : W1.grownBy W2 v0.ownBlock) (own : W2.ownsRow (w1.heap.size + 1) 29 2 v (0 + (L.length - k)) ([] ++ cellsL ((L.drop k).take (L.length - k)))) :
    First w w1 W2 v b off (L.length - k) L (L.drop k) tx ty := by
  have hB : Below w.heap.size w W2 := B1.grown gr B1.size (by intro k hk; rw [h0] at hk; injection hk with hk; omega)
  have hA : Below (w1.heap.size + 1) (w1.alloc (.cells #[.int .i64 tx, .int .i64 ty] 29 (0, 0))) W2 := A1.grown gr (by omega) (by intro k hk; rw [h0] at hk; injection hk with hk; omega)
  refine ⟨bs, hB, ?_, ?_, ?_, ?_, ?_⟩
  · have := hA.size
    simp at this
    omega
  · rw [Nat.zero_add, List.nil_append, List.take_of_length_le (by simp)] at own
    exact own
  · rw [hA.cell (p := ⟨w1.heap.size, 0, none⟩) (by simp)]; simp
  · rw [hA.cell (p := ⟨w1.heap.size, 1, none⟩) (by simp)]; simp
  · intro k hk j u hu
    have := news_at (row_below hr hB) rfl 0 k (by omega) j u (by simpa using hu)
    simpa using this

/-- What holds behind the second one. -/
structure Second (w w1 W : World) (v : Value) (k : Nat) (L : PL) (tx ty : Int) : Prop where
  below : Below w.heap.size w W
  own : W.ownsRow (w1.heap.size + 1) 29 2 v (L.drop k ++ L.take k).length (cellsL (L.drop k ++ L.take k))
  c0 : W.cell? ⟨w1.heap.size, 0, none⟩ = some (.int .i64 tx)
  c1 : W.cell? ⟨w1.heap.size, 1, none⟩ = some (.int .i64 ty)

theorem grown_cell {w w' : World} {row : Option Nat} {a : Addr} {v : Value} (g : w.grownBy w' row) (h : w.cell? a = some v) (hr : some a.block ≠ row) : w'.cell? a = some v := by
  rw [World.cell?_of_block (g.block a.block (World.block_lt_of_cell? w _ h) hr)]
  exact h

theorem second_done {w w1 W2 W3 : World} {v1 v2 : Value} {b off k : Nat} {L : PL} {tx ty : Int} (F : First w w1 W2 v1 b off (L.length - k) L (L.drop k) tx ty) (hk : k ≤ L.length)
    (own : W3.ownsRow (w1.heap.size + 1) 29 2 v2 (L.length - k + k) (cellsL (L.drop k) ++ cellsL (L.take k))) (gr : W2.grownBy W3 v1.ownBlock) : Second w w1 W3 v2 k L tx ty := by
  have hbase := F.own.lt
  refine ⟨F.below.grown gr F.below.size (fun n hn => ?_), ?_, grown_cell gr F.c0 (fun h => ?_), grown_cell gr F.c1 (fun h => ?_)⟩
  · have := (hbase n hn).1
    have := F.old
    omega
  · rw [cellsL_append, show (L.drop k ++ L.take k).length = L.length - k + k from by simp; omega]
    exact own
  · have := (hbase _ h.symm).1
    simp at this
    omega
  · have := (hbase _ h.symm).1
    simp at this
    omega

structure Third (w w1 w4 W : World) (tx ty : Int) : Prop where
  old : w.heap.size ≤ w4.heap.size
  below : Below w.heap.size w W
  size : w4.heap.size + 1 ≤ W.heap.size
  c0 : W.cell? ⟨w1.heap.size, 0, none⟩ = some (.int .i64 tx)
  c1 : W.cell? ⟨w1.heap.size, 1, none⟩ = some (.int .i64 ty)
  d0 : W.cell? ⟨w4.heap.size, 0, none⟩ = some (.int .i64 tx)
  d1 : W.cell? ⟨w4.heap.size, 1, none⟩ = some (.int .i64 ty)
  lt : w1.heap.size < w4.heap.size

theorem third_done {w w1 W w4 : World} {v : Value} {k : Nat} {L : PL} {tx ty : Int} (G : Second w w1 W v k L tx ty) (hb : Below W.heap.size W w4) : Third w w1 w4 (w4.alloc (.cells #[.int .i64 tx, .int .i64 ty] 29 (0, 0))) tx ty := by
  have e0 := cell_later hb G.c0
  have e1 := cell_later hb G.c1
  have hw4 : w.heap.size ≤ w4.heap.size := Nat.le_trans G.below.size hb.size
  exact ⟨hw4, (G.below.trans (hb.mono G.below.size)).alloc hw4 _, by simp, cell_alloc _ e0, cell_alloc _ e1, by simp, by simp, World.block_lt_of_cell? w4 _ e0⟩

theorem row_cells {w : World} {b off n : Nat} {X Y : Nat → Int} (h : Row w (some ⟨b, off, none⟩) n X Y) (i : Nat) (hi : i < n) : w.cell? ⟨b, off + i * 2, none⟩ = some (.int .i64 (X i)) ∧ w.cell? ⟨b, off + i * 2 + 1, none⟩ = some (.int .i64 (Y i)) := by
  rcases h.2 with h0 | ⟨b', off', he, hc⟩
  · omega
  · simp only [Option.some.injEq, Addr.mk.injEq] at he
    obtain ⟨rfl, rfl, _⟩ := he
    exact hc i hi

theorem swap_take (L : PL) (j : Nat) (hj : j < L.length) : cellsL (swapL (L.take (j + 1))) = cellsL (swapL (L.take j)) ++ [.int .i64 (Ly L j), .int .i64 (Lx L j)] := by
  have e : swapL (L.take (j + 1)) = swapL (L.take j) ++ [(L[j].2, L[j].1)] := by
    rw [List.take_succ_eq_append_getElem hj]
    unfold swapL
    rw [List.map_append]
    rfl
  have ex : Lx L j = L[j].1 := by simp [Lx, List.getD, List.getElem?_eq_getElem hj]
  have ey : Ly L j = L[j].2 := by simp [Ly, List.getD, List.getElem?_eq_getElem hj]
  rw [e, cellsL_append, ex, ey]
  rfl

theorem own_swap {w : World} {B e : Nat} {v : Value} {L : PL} (h : w.ownsRow B e 2 v L.length (cellsL (swapL (L.take L.length)))) : w.ownsRow B e 2 v (swapL L).length (cellsL (swapL L)) := by
  rw [List.take_length] at h
  rw [show (swapL L).length = L.length from by simp [swapL]]
  exact h

theorem round_done {w w4 W5 wr w6 : World} {u : Value} {b j gg cap : Nat} {L : PL} (hlt : j < L.length) (hown : wr.ownsRow (w4.heap.size + 1) 29 2 u j (cellsL (swapL (L.take j))))
    (hbel : Below w.heap.size w wr) (hbel5 : Below (w4.heap.size + 1) W5 wr) (hne : u.ownBlock ≠ some b) (hbw : b < wr.heap.size) (sz : W5.heap.size ≤ wr.heap.size) (sz5 : w4.heap.size + 1 ≤ W5.heap.size)
    (hw4 : w.heap.size ≤ w4.heap.size)
    (hown1 : w6.ownsRow (w4.heap.size + 1) 29 2 (.slice (some ⟨gg, 0, none⟩) (j + 1) cap) (j + 1) (cellsL (swapL (L.take j)) ++ [.int .i64 (Ly L j), .int .i64 (Lx L j)]))
    (hgrow : (wr.alloc (.cells #[.int .i64 (Ly L j), .int .i64 (Lx L j)] 29 (0, 0))).drew.grownBy w6 u.ownBlock) (hat : u.ownBlock = some gg ∨ gg = wr.heap.size + 1) :
    w6.ownsRow (w4.heap.size + 1) 29 2 (.slice (some ⟨gg, 0, none⟩) (j + 1) cap) (j + 1) (cellsL (swapL (L.take (j + 1)))) ∧ Below w.heap.size w w6 ∧ Below (w4.heap.size + 1) W5 w6 ∧ (Value.slice (some ⟨gg, 0, none⟩) (j + 1) cap).ownBlock ≠ some b := by
  have hlt' := hown.lt
  refine ⟨by rw [swap_take L j hlt]; exact hown1, ?_, ?_, ?_⟩
  · refine ((hbel.alloc hbel.size _).drew).grown hgrow (by have := hbel.size; simp; omega) fun k hk => ?_
    have := (hlt' k hk).1
    omega
  · refine ((hbel5.alloc (by omega) _).drew).grown hgrow (by simp; omega) fun k hk => (hlt' k hk).1
  · intro h
    simp only [Value.ownBlock, Option.some.injEq] at h
    subst h
    rcases hat with h | h
    · exact hne h
    · omega

structure Last (w w1 w4 w7 W : World) (b off : Nat) (tx ty x0 y0 : Int) : Prop where
  below : Below w.heap.size w W
  c0 : W.cell? ⟨w1.heap.size, 0, none⟩ = some (.int .i64 tx)
  c1 : W.cell? ⟨w1.heap.size, 1, none⟩ = some (.int .i64 ty)
  d0 : W.cell? ⟨w4.heap.size, 0, none⟩ = some (.int .i64 tx)
  d1 : W.cell? ⟨w4.heap.size, 1, none⟩ = some (.int .i64 ty)
  e0 : W.cell? ⟨w7.heap.size, 0, none⟩ = some (.int .i64 ty)
  e1 : W.cell? ⟨w7.heap.size, 1, none⟩ = some (.int .i64 tx)
  f0 : W.cell? ⟨b, off, none⟩ = some (.int .i64 x0)
  f1 : W.cell? ⟨b, off + 1, none⟩ = some (.int .i64 y0)

theorem last_done {w w1 w4 W5 wr w7 : World} {b off : Nat} {L : PL} {tx ty : Int} (hr : Row w (some ⟨b, off, none⟩) L.length (Lx L) (Ly L)) (h0 : 0 < L.length) (I : Third w w1 w4 W5 tx ty) (hbel : Below w.heap.size w wr) (hbel5 : Below (w4.heap.size + 1) W5 wr) (hb : Below wr.heap.size wr w7) :
    Last w w1 w4 w7 (w7.alloc (.cells #[.int .i64 ty, .int .i64 tx] 29 (0, 0))) b off tx ty (Lx L 0) (Ly L 0) := by
  have k : ∀ {n o : Nat} {v : Value}, n < w4.heap.size + 1 → W5.cell? ⟨n, o, none⟩ = some v → (w7.alloc (.cells #[.int .i64 ty, .int .i64 tx] 29 (0, 0))).cell? ⟨n, o, none⟩ = some v := by
    intro n o v hn h
    have h1 : wr.cell? ⟨n, o, none⟩ = some v := by rw [hbel5.cell (p := ⟨n, o, none⟩) hn]; exact h
    exact cell_alloc _ (cell_later hb h1)
  have hlt := I.lt
  have B7 := hbel.trans (hb.mono hbel.size)
  obtain ⟨f0, f1⟩ := row_cells (row_below hr (B7.alloc B7.size (.cells #[.int .i64 ty, .int .i64 tx] 29 (0, 0)))) 0 h0
  exact ⟨B7.alloc B7.size _, k (by omega) I.c0, k (by omega) I.c1, k (by omega) I.d0, k (by omega) I.d1, by simp, by simp, by simpa using f0, by simpa using f1⟩

theorem news_none (a : Addr) (w : World) : ∀ j u, (cellsL [])[j]? = some u → w.cell? (a.add j) = some u := by
  intro j u h
  simp [cellsL] at h

theorem own_all {w : World} {B e : Nat} {v : Value} {L : PL} (h : w.ownsRow B e 2 v (0 + 0) ([] ++ cellsL [])) : w.ownsRow B e 2 v (0 + (L.length - L.length)) ([] ++ cellsL ((L.drop L.length).take (L.length - L.length))) := by
  simpa using h

abbrev All (w : World) (n1 n4 n7 b off : Nat) (tx ty x0 y0 : Int) (w' : World) : Prop :=
  w'.cell? ⟨n1, 0, none⟩ = some (.int .i64 tx) ∧ w'.cell? ⟨n1, 1, none⟩ = some (.int .i64 ty) ∧ w'.cell? ⟨n4, 0, none⟩ = some (.int .i64 tx) ∧ w'.cell? ⟨n4, 1, none⟩ = some (.int .i64 ty) ∧ w'.cell? ⟨n7, 0, none⟩ = some (.int .i64 ty) ∧ w'.cell? ⟨n7, 1, none⟩ = some (.int .i64 tx) ∧ w'.cell? ⟨b, off, none⟩ = some (.int .i64 x0) ∧ w'.cell? ⟨b, off + 1, none⟩ = some (.int .i64 y0) ∧ Below w.heap.size w w'

theorem last_all {w w1 w4 w7 W : World} {b off : Nat} {tx ty x0 y0 : Int} (J : Last w w1 w4 w7 W b off tx ty x0 y0) : All w w1.heap.size w4.heap.size w7.heap.size b off tx ty x0 y0 W :=
  ⟨J.c0, J.c1, J.d0, J.d1, J.e0, J.e1, J.f0, J.f1, J.below⟩

theorem all_drew {w W : World} {n1 n4 n7 b off : Nat} {tx ty x0 y0 : Int} (h : All w n1 n4 n7 b off tx ty x0 y0 W) : All w n1 n4 n7 b off tx ty x0 y0 W.drew := by
  obtain ⟨h1, h2, h3, h4, h5, h6, h7, h8, h9⟩ := h
  exact ⟨h1, h2, h3, h4, h5, h6, h7, h8, h9.drew⟩

theorem all_step {w W W' : World} {n1 n4 n7 b off : Nat} {tx ty x0 y0 : Int} (h : All w n1 n4 n7 b off tx ty x0 y0 W) (hb : Below W.heap.size W W') : All w n1 n4 n7 b off tx ty x0 y0 W' := by
  obtain ⟨h1, h2, h3, h4, h5, h6, h7, h8, h9⟩ := h
  exact ⟨cell_later hb h1, cell_later hb h2, cell_later hb h3, cell_later hb h4, cell_later hb h5, cell_later hb h6, cell_later hb h7, cell_later hb h8, h9.trans (hb.mono h9.size)⟩

theorem own_none : OwnIs [] 0 0 true := by
  intro v base w h
  obtain ⟨a, cap, rfl, _⟩ := row_of_owns h
  exact totals_nil a cap w

theorem empty_second {w w1 : World} (B1 : Below w.heap.size w ((w1.alloc (.cells #[.int .i64 0, .int .i64 0] 29 (0, 0))).alloc (.cells #[] 29 (0, 0))))
    (own : ((w1.alloc (.cells #[.int .i64 0, .int .i64 0] 29 (0, 0))).alloc (.cells #[] 29 (0, 0))).ownsRow (w1.heap.size + 1) 29 2 (.slice (some ⟨w1.heap.size + 1, 0, none⟩) 0 0) 0 []) :
    Second w w1 ((w1.alloc (.cells #[.int .i64 0, .int .i64 0] 29 (0, 0))).alloc (.cells #[] 29 (0, 0))) (.slice (some ⟨w1.heap.size + 1, 0, none⟩) 0 0) 0 [] 0 0 :=
  ⟨B1, own, cell_alloc _ (by simp), cell_alloc _ (by simp)⟩

structure EFirst (w w1 W : World) (v : Value) : Prop where
  old : w.heap.size ≤ w1.heap.size
  below : Below w.heap.size w W
  size : w1.heap.size + 1 ≤ W.heap.size
  own : W.ownsRow (w1.heap.size + 1) 29 2 v 0 []
  c0 : W.cell? ⟨w1.heap.size, 0, none⟩ = some (.int .i64 0)
  c1 : W.cell? ⟨w1.heap.size, 1, none⟩ = some (.int .i64 0)

theorem empty_first {w w1 W1 W2 : World} {v0 v : Value} (bs : w.heap.size ≤ w1.heap.size)
    (B1 : Below w.heap.size w W1) (A1 : Below (w1.heap.size + 1) (w1.alloc (.cells #[.int .i64 0, .int .i64 0] 29 (0, 0))) W1) (h0 : v0.ownBlock = some (w1.heap.size + 1)) (hs : w1.heap.size + 2 ≤ W1.heap.size)
    (gr : W1.grownBy W2 v0.ownBlock) (own : W2.ownsRow (w1.heap.size + 1) 29 2 v (0 + 0) ([] ++ cellsL [])) : EFirst w w1 W2 v := by
  have hB : Below w.heap.size w W2 := B1.grown gr B1.size (by intro k hk; rw [h0] at hk; injection hk with hk; omega)
  have hA : Below (w1.heap.size + 1) (w1.alloc (.cells #[.int .i64 0, .int .i64 0] 29 (0, 0))) W2 := A1.grown gr (by omega) (by intro k hk; rw [h0] at hk; injection hk with hk; omega)
  refine ⟨bs, hB, ?_, own, ?_, ?_⟩
  · have := hA.size
    simp at this
    omega
  · rw [hA.cell (p := ⟨w1.heap.size, 0, none⟩) (by simp)]; simp
  · rw [hA.cell (p := ⟨w1.heap.size, 1, none⟩) (by simp)]; simp

theorem empty_two {w w1 W2 W3 : World} {v1 v2 : Value} (F : EFirst w w1 W2 v1) (own : W3.ownsRow (w1.heap.size + 1) 29 2 v2 (0 + 0) ([] ++ cellsL [])) (gr : W2.grownBy W3 v1.ownBlock) : Second w w1 W3 v2 0 [] 0 0 := by
  have hbase := F.own.lt
  refine ⟨F.below.grown gr F.below.size (fun n hn => ?_), own, grown_cell gr F.c0 (fun h => ?_), grown_cell gr F.c1 (fun h => ?_)⟩
  · have := (hbase n hn).1
    have := F.old
    omega
  · have := (hbase _ h.symm).1
    simp at this
    omega
  · have := (hbase _ h.symm).1
    simp at this
    omega

theorem empty_last {w w1 w4 W5 w7 : World} (I : Third w w1 w4 W5 0 0) (hb : Below W5.heap.size W5 w7) :
    (w7.alloc (.cells #[.int .i64 0, .int .i64 0] 29 (0, 0))).cell? ⟨w1.heap.size, 0, none⟩ = some (.int .i64 0) ∧ (w7.alloc (.cells #[.int .i64 0, .int .i64 0] 29 (0, 0))).cell? ⟨w1.heap.size, 1, none⟩ = some (.int .i64 0) ∧
    (w7.alloc (.cells #[.int .i64 0, .int .i64 0] 29 (0, 0))).cell? ⟨w4.heap.size, 0, none⟩ = some (.int .i64 0) ∧ (w7.alloc (.cells #[.int .i64 0, .int .i64 0] 29 (0, 0))).cell? ⟨w4.heap.size, 1, none⟩ = some (.int .i64 0) ∧
    (w7.alloc (.cells #[.int .i64 0, .int .i64 0] 29 (0, 0))).cell? ⟨w7.heap.size, 0, none⟩ = some (.int .i64 0) ∧ (w7.alloc (.cells #[.int .i64 0, .int .i64 0] 29 (0, 0))).cell? ⟨w7.heap.size, 1, none⟩ = some (.int .i64 0) ∧
    Below w.heap.size w (w7.alloc (.cells #[.int .i64 0, .int .i64 0] 29 (0, 0))) := by
  have B7 := I.below.trans (hb.mono I.below.size)
  exact ⟨cell_alloc _ (cell_later hb I.c0), cell_alloc _ (cell_later hb I.c1), cell_alloc _ (cell_later hb I.d0), cell_alloc _ (cell_later hb I.d1), by simp, by simp, B7.alloc B7.size _⟩

end Go.Proofs.Ythjlilepialmoaa.satPairs
