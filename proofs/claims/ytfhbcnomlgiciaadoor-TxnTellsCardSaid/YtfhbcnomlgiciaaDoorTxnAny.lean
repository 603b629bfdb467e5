/- Layer 4 (txn.Decode) and the document's own Decode, whatever the bytes. -/
import Derived.Test.YtfhbcnomlgiciaaDoorTxnFacts
namespace Go.Proofs.YtfhbcnomlgiciaaDoor.txn
open Go.RowKit codec
set_option linter.unusedVariables false

theorem decode_any (s : ByteArray) (w : World) (hM : Most w) (hs : s.size ≤ maxLen) :
    Calls Tryd.prog 14 #[.string s] w fun e w' => e = .returned (retDec (dec s.data.toList)) ∧ Below w.heap.size w w' := by
  unfold dec
  rcases h0 : cut1 s.data.toList with _ | r
  · exact decode_cut s w hM hs h0
  rw [Option.bind_some]
  rcases h1 : take5 r with _ | ⟨⟨k0, k1, k2, k3, k4⟩, r4⟩
  · exact decode_nums s r w hM hs h0 h1
  rw [Option.bind_some]
  simp only []
  rcases h2 : takeText r4 256 with _ | ⟨d, q⟩
  · exact decode_text s r k0 k1 k2 k3 k4 r4 w hM hs h0 h1 h2
  rw [Option.bind_some]
  simp only []
  by_cases hq : q = []
  · cases hok : (Tx.mk k0 k1 k2 k3 k4 ⟨d.toArray⟩).ok with
    | false =>
      rw [if_neg (by simp)]
      exact decode_bad s r k0 k1 k2 k3 k4 r4 d q w hM hs h0 h1 h2 hq hok
    | true =>
      rw [if_pos ⟨hq, rfl⟩]
      exact decode_good s r k0 k1 k2 k3 k4 r4 d q w hM hs h0 h1 h2 hq hok
  · rw [if_neg (fun c => hq c.1)]
    exact decode_more s r k0 k1 k2 k3 k4 r4 d q w hM hs h0 h1 h2 hq

theorem rdecode_any (s : ByteArray) (w : World) (hs : s.size ≤ maxLen) :
    Calls Tryd.prog 15 #[.string s] w fun e w' => e = .returned (retDec (dec s.data.toList)) ∧ Below w.heap.size w w' := by
  have hz : s.data.toList.length = s.size := by simp
  cases hl : s.data.toList with
  | nil =>
    rw [hl] at hz
    exact rdecode_empty s w hs (by simpa using hz.symm)
  | cons a r =>
    rcases hdec : dec (a :: r) with _ | x
    · rcases h0 : takeNum r 1099511627776 with _ | ⟨k0, r0⟩
      · exact rdecode_n0 s a r w hs hl h0
      rcases h1 : takeNum r0 1099511627776 with _ | ⟨k1, r1⟩
      · exact rdecode_n1 s a r k0 r0 w hs hl h0 h1
      rcases h2 : takeNum r1 1099511627776 with _ | ⟨k2, r2⟩
      · exact rdecode_n2 s a r k0 r0 k1 r1 w hs hl h0 h1 h2
      rcases h3 : takeNum r2 1099511627776 with _ | ⟨k3, r3⟩
      · exact rdecode_n3 s a r k0 r0 k1 r1 k2 r2 w hs hl h0 h1 h2 h3
      rcases h4 : takeNum r3 1099511627776 with _ | ⟨k4, r4⟩
      · exact rdecode_n4 s a r k0 r0 k1 r1 k2 r2 k3 r3 w hs hl h0 h1 h2 h3 h4
      cases hok : (Tx.mk k0 k1 k2 k3 k4 ⟨(((takeText r4 256).map Prod.fst).getD []).toArray⟩).ok with
      | false => exact rdecode_bad s a r k0 r0 k1 r1 k2 r2 k3 r3 k4 r4 _ _ w hs hl h0 h1 h2 h3 h4 rfl rfl hok
      | true =>
        refine rdecode_other s a r k0 r0 k1 r1 k2 r2 k3 r3 k4 r4 _ _ w hs hl h0 h1 h2 h3 h4 rfl rfl hok ?_
        intro e
        rw [hl] at e
        have := (dec_iff (a :: r) _).2 ⟨hok, e.symm⟩
        rw [hdec] at this
        cases this
    · obtain ⟨hok, e⟩ := dec_some _ _ hdec
      obtain ⟨s', n, t, c, g, d⟩ := x
      have hx := hok
      simp only [Tx.ok, decide_eq_true_eq] at hx
      have e' : enc ⟨s', n, t, c, g, d⟩ = 1 :: (num s'.toNat ++ (num n.toNat ++ (num t.toNat ++ (num c.toNat ++ (num g.toNat ++ (text d.data.toList ++ [])))))) := by simp [enc]
      rw [e'] at e
      obtain ⟨ea, er⟩ := List.cons.inj e
      have hd : d.data.toList.length = d.size := by simp
      have ed : (⟨d.data.toList.toArray⟩ : ByteArray) = d := by
        apply ByteArray.ext
        simp
      have ot : takeText (text d.data.toList ++ []) 256 = some (d.data.toList, []) := by rw [takeText_text _ _ _ (by omega), if_pos (by omega)]
      have X : Tx.mk ((s'.toNat : Nat) : Int) ((n.toNat : Nat) : Int) ((t.toNat : Nat) : Int) ((c.toNat : Nat) : Int) ((g.toNat : Nat) : Int) ⟨d.data.toList.toArray⟩ = ⟨s', n, t, c, g, d⟩ := by
        rw [show ((s'.toNat : Nat) : Int) = s' from by omega, show ((n.toNat : Nat) : Int) = n from by omega, show ((t.toNat : Nat) : Int) = t from by omega, show ((c.toNat : Nat) : Int) = c from by omega, show ((g.toNat : Nat) : Int) = g from by omega, ed]
      have := rdecode_good s a r s'.toNat (num n.toNat ++ (num t.toNat ++ (num c.toNat ++ (num g.toNat ++ (text d.data.toList ++ []))))) n.toNat (num t.toNat ++ (num c.toNat ++ (num g.toNat ++ (text d.data.toList ++ [])))) t.toNat (num c.toNat ++ (num g.toNat ++ (text d.data.toList ++ []))) c.toNat (num g.toNat ++ (text d.data.toList ++ [])) g.toNat (text d.data.toList ++ []) d.data.toList _ w hs hl
        (by rw [er, takeNum_num _ _ _ (by omega), if_pos (by omega)]) (by rw [takeNum_num _ _ _ (by omega), if_pos (by omega)]) (by rw [takeNum_num _ _ _ (by omega), if_pos (by omega)]) (by rw [takeNum_num _ _ _ (by omega), if_pos (by omega)]) (by rw [takeNum_num _ _ _ (by omega), if_pos (by omega)])
        ot (by rfl) (by rw [X]; exact hok) (by rw [X, e', hl, ea, er])
      rw [X] at this
      exact this
end Go.Proofs.YtfhbcnomlgiciaaDoor.txn
