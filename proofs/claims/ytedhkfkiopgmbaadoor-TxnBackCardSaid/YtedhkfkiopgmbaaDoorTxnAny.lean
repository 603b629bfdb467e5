/- Layer 4 (txn.Decode) and the document's own Decode, whatever the bytes. -/
import Derived.Test.YtedhkfkiopgmbaaDoorTxnFacts
namespace Go.Proofs.YtedhkfkiopgmbaaDoor.txn
open Go.RowKit codec
set_option linter.unusedVariables false

theorem decode_any (s : ByteArray) (w : World) (hM : Most w) (hs : s.size ≤ maxLen) :
    Calls Tryd.prog 58 #[.string s] w fun e w' => e = .returned (retDec (dec s.data.toList)) ∧ Below w.heap.size w w' := by
  unfold dec
  rcases h0 : cut1 s.data.toList with _ | r
  · exact decode_cut s w hM hs h0
  rw [Option.bind_some]
  rcases h1 : take5 r with _ | ⟨⟨k0, k1, k2, k3, k4⟩, r4⟩
  · exact decode_nums s r w hM hs h0 h1
  rw [Option.bind_some]
  simp only []
  rcases h2 : takeText r4 256 with _ | ⟨d, q⟩
  · exact decode_text s r k0 k1 k2 k3 k4 r4 w hM hs h0 h1 h2
  rw [Option.bind_some]
  simp only []
  by_cases hq : q = []
  · cases hok : (Tx.mk k0 k1 k2 k3 k4 ⟨d.toArray⟩).ok with
    | false =>
      rw [if_neg (by simp)]
      exact decode_bad s r k0 k1 k2 k3 k4 r4 d q w hM hs h0 h1 h2 hq hok
    | true =>
      rw [if_pos ⟨hq, rfl⟩]
      exact decode_good s r k0 k1 k2 k3 k4 r4 d q w hM hs h0 h1 h2 hq hok
  · rw [if_neg (fun c => hq c.1)]
    exact decode_more s r k0 k1 k2 k3 k4 r4 d q w hM hs h0 h1 h2 hq

end Go.Proofs.YtedhkfkiopgmbaaDoor.txn
