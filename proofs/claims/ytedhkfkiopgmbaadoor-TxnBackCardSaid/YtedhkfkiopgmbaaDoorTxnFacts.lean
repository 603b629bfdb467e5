/- A transaction's bytes, in plain Lean; no walk. -/
import Derived.Test.YtedhkfkiopgmbaaDoorTxnRDecB
namespace Go.Proofs.YtedhkfkiopgmbaaDoor.txn
open Go.RowKit codec
set_option linter.unusedVariables false

/-- Five numbers, as the document's own Decode takes them. -/
def rtake5 (s : List UInt8) : Option ((Nat × Nat × Nat × Nat × Nat) × List UInt8) :=
  (takeNum s 1099511627776).bind fun p0 => (takeNum p0.2 1099511627776).bind fun p1 => (takeNum p1.2 1099511627776).bind fun p2 => (takeNum p2.2 1099511627776).bind fun p3 => (takeNum p3.2 1099511627776).bind fun p4 =>
    some ((p0.1, p1.1, p2.1, p3.1, p4.1), p4.2)

theorem dec_enc (x : Tx) (hx : x.ok = true) (more : List UInt8) : dec (enc x ++ more) = if more = [] then some x else none := by
  obtain ⟨s, n, t, c, g, d⟩ := x
  have ok2 := hx
  simp only [Tx.ok, decide_eq_true_eq] at hx
  have e : enc ⟨s, n, t, c, g, d⟩ ++ more = 1 :: (num s.toNat ++ (num n.toNat ++ (num t.toNat ++ (num c.toNat ++ (num g.toNat ++ (text d.data.toList ++ more)))))) := by simp [enc]
  rw [e]
  have hd : d.data.toList.length = d.size := by simp
  simp only [dec, cut1, if_true, Option.bind_some, take5]
  rw [takeNum_num _ _ _ (by omega), if_pos (by omega)]
  simp only [Option.bind_some]
  rw [takeNum_num _ _ _ (by omega), if_pos (by omega)]
  simp only [Option.bind_some]
  rw [takeNum_num _ _ _ (by omega), if_pos (by omega)]
  simp only [Option.bind_some]
  rw [takeNum_num _ _ _ (by omega), if_pos (by omega)]
  simp only [Option.bind_some]
  rw [takeNum_num _ _ _ (by omega), if_pos (by omega)]
  simp only [Option.bind_some]
  rw [takeText_text _ _ _ (by omega), if_pos (by omega)]
  simp only [Option.bind_some]
  have ed : (⟨d.data.toList.toArray⟩ : ByteArray) = d := by
    apply ByteArray.ext
    simp
  rw [show ((s.toNat : Nat) : Int) = s from by omega, show ((n.toNat : Nat) : Int) = n from by omega, show ((t.toNat : Nat) : Int) = t from by omega, show ((c.toNat : Nat) : Int) = c from by omega, show ((g.toNat : Nat) : Int) = g from by omega, ed]
  by_cases hm : more = []
  · rw [if_pos ⟨hm, ok2⟩, if_pos hm]
  · rw [if_neg (fun q => hm q.1), if_neg hm]

theorem dec_some (l : List UInt8) (x : Tx) (h : dec l = some x) : x.ok = true ∧ l = enc x := by
  unfold dec at h
  rcases h0 : cut1 l with _ | r
  · rw [h0] at h; cases h
  rw [h0, Option.bind_some] at h
  have el : l = 1 :: r := by
    cases l with
    | nil => cases h0
    | cons b t =>
      by_cases g : b = 1
      · simp [cut1, g] at h0
        rw [g, h0]
      · simp [cut1, g] at h0
  rcases h1 : take5 r with _ | p
  · rw [h1] at h; cases h
  rw [h1, Option.bind_some] at h
  rcases h2 : takeText p.2 256 with _ | q
  · rw [h2] at h; cases h
  rw [h2, Option.bind_some] at h
  split at h
  · next c =>
    obtain ⟨c1, c2⟩ := c
    obtain rfl := Option.some.inj h
    refine ⟨c2, ?_⟩
    obtain ⟨e5, -, -⟩ := takeText_some _ _ _ _ h2
    rw [c1, List.append_nil] at e5
    unfold take5 at h1
    rcases g0 : takeNum r 255 with _ | ⟨k0, r0⟩
    · rw [g0] at h1; cases h1
    rw [g0, Option.bind_some] at h1
    simp only [] at h1
    rcases g1 : takeNum r0 4294967295 with _ | ⟨k1, r1⟩
    · rw [g1] at h1; cases h1
    rw [g1, Option.bind_some] at h1
    simp only [] at h1
    rcases g2 : takeNum r1 1099511627776 with _ | ⟨k2, r2⟩
    · rw [g2] at h1; cases h1
    rw [g2, Option.bind_some] at h1
    simp only [] at h1
    rcases g3 : takeNum r2 1099511627776 with _ | ⟨k3, r3⟩
    · rw [g3] at h1; cases h1
    rw [g3, Option.bind_some] at h1
    simp only [] at h1
    rcases g4 : takeNum r3 1073741824 with _ | ⟨k4, r4⟩
    · rw [g4] at h1; cases h1
    rw [g4, Option.bind_some] at h1
    simp only [] at h1
    obtain rfl := Option.some.inj h1
    simp only [] at e5
    rw [el, (takeNum_some _ _ _ _ g0).1, (takeNum_some _ _ _ _ g1).1, (takeNum_some _ _ _ _ g2).1, (takeNum_some _ _ _ _ g3).1, (takeNum_some _ _ _ _ g4).1, e5]
    simp [enc]
  · cases h

theorem dec_iff (l : List UInt8) (x : Tx) : dec l = some x ↔ x.ok = true ∧ l = enc x := by
  constructor
  · exact dec_some l x
  · rintro ⟨h, rfl⟩
    have := dec_enc x h []
    rwa [List.append_nil, if_pos rfl] at this

theorem enc_inj (x y : Tx) (hx : x.ok = true) (hy : y.ok = true) : enc x = enc y ↔ x = y := by
  constructor
  · intro h
    have h1 := (dec_iff (enc x) x).2 ⟨hx, rfl⟩
    have h2 := (dec_iff (enc x) y).2 ⟨hy, h⟩
    rw [h1] at h2
    exact Option.some.inj h2
  · rintro rfl
    rfl
end Go.Proofs.YtedhkfkiopgmbaaDoor.txn
