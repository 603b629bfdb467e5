/- Layer 3 of the document's own answer (hopperref03: TakeNumber, TakeText), by contract. -/
import Derived.Test.YtfhgkkcpkcjbmaaGreatDoorKCodecRef
import Derived.OwnWalk
import Derived.Deep.QuietTactic
import Derived.BigQuiet
set_option linter.all false
set_option maxHeartbeats 4000000
set_option maxRecDepth 100000
namespace Go.Proofs.YtfhgkkcpkcjbmaaGreatDoor.codec
open Go.RowKit
def retNum:Option (Nat×List UInt8)→Value
 | none=>.tuple #[.int .i64 0,.string ⟨#[]⟩,.bool false]
 | some (n,r)=>.tuple #[.int .i64 n,.string ⟨r.toArray⟩,.bool true]
def retText:Option (List UInt8×List UInt8)→Value
 | none=>.tuple #[.string ⟨#[]⟩,.string ⟨#[]⟩,.bool false]
 | some (t,r)=>.tuple #[.string ⟨t.toArray⟩,.string ⟨r.toArray⟩,.bool true]
theorem drawn_n (w:World) (n:Nat):Below w.heap.size w (w.drewN n):=by
 induction n with
 | zero=>exact Below.refl _ _
 | succ n ih=>exact ih.drew
theorem drawn {a w:World} (h:Below a.heap.size a w) (n:Nat):Below a.heap.size a (w.drewN n):=later h (drawn_n w n)
theorem bytes_cut (s:ByteArray) (i j:Nat):s.extract i j=⟨((s.data.toList.take j).drop i).toArray⟩:=by
 apply ByteArray.ext
 apply Array.toList_inj.1
 simp [Array.toList_extract,List.extract,List.drop_take]
theorem str_from (s:ByteArray) (i:Nat) (x:Int) (hx:x=i) (hi:i≤s.size) (w:World) :
  (Instr.slice 9 (.string s) (some (.int .i64 x)) none none).run Tryz.prog w=.ok (.string ⟨(s.data.toList.drop i).toArray⟩) w:=by
 subst hx
 rw [run_slice_string_l (w:=w) 9 s Tryz.underlying9 .i64 i (by omega) (by omega)]
 rw [bytes_cut,List.take_of_length_le (by simp)]
 rfl
theorem str_to (s:ByteArray) (j:Nat) (y:Int) (hy:y=j) (hj:j≤s.size) (w:World) :
  (Instr.slice 9 (.string s) none (some (.int .i64 y)) none).run Tryz.prog w=.ok (.string ⟨(s.data.toList.take j).toArray⟩) w:=by
 subst hy
 rw [run_slice_string_h (w:=w) 9 s Tryz.underlying9 .i64 j (by omega) (by omega)]
 rw [bytes_cut]
 rfl
end Go.Proofs.YtfhgkkcpkcjbmaaGreatDoor.codec
