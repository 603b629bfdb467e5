/- Layer 4 (txn: Slots, ID, Better) and the document's own, by contract. -/
import Derived.Test.YtdbjakibneeeiaaGreatDoorKTxnREnc
import Derived.Test.YtdbjakibneeeiaaGreatDoorKSlots
import Derived.Test.YtdbjakibneeeiaaGreatDoorKFnvT
set_option linter.all false
set_option maxHeartbeats 4000000
set_option maxRecDepth 100000
namespace Go.Proofs.YtdbjakibneeeiaaGreatDoor.txn
open Go.RowKit cE
def HE (x:Tx) (h:x.ok=true):(enc x).length≤29+x.d.size∧13≤(enc x).length:=by
 obtain ⟨s,n,t,c,g,d⟩:=x
 simp only [Tx.ok,decide_eq_true_eq] at h
 have hd:d.data.toList.length=d.size:=by simp
 have l0:=iS s.toNat
 have l1:=iS n.toNat
 have l2:=iS t.toNat
 have l3:=iS c.toNat
 have l4:=iS g.toNat
 have p0:=size_pos s.toNat
 have p1:=size_pos n.toNat
 have p2:=size_pos t.toNat
 have p3:=size_pos c.toNat
 have p4:=size_pos g.toNat
 have q0:=size_le s.toNat 1 (by omega) (by omega)
 have q1:=size_le n.toNat 4 (by omega) (by omega)
 have q2:=size_le t.toNat 6 (by omega) (by omega)
 have q3:=size_le c.toNat 6 (by omega) (by omega)
 have q4:=size_le g.toNat 4 (by omega) (by omega)
 have l5:=sY d.data.toList
 have e:(enc ⟨s,n,t,c,g,d⟩).length=1+(num s.toNat).length+(num n.toNat).length+(num t.toNat).length+(num c.toNat).length+(num g.toNat).length+(text d.data.toList).length:=by
  simp only [enc,List.length_append,List.length_cons,List.length_nil]
 rw [e]
 simp only []
 omega
def zZ (x:Tx):(fH x).length≤285:=by
 unfold fH
 split
 ·next h=>
  have:=(HE x h).1
  have h2:=h
  simp only [Tx.ok,decide_eq_true_eq] at h2
  omega
 ·simp
def DN (x:Tx):List UInt8:=if x.ok then mL.digits 16 (mL.xN (enc x)).toNat else []
def N6 (v:Int) (h0:0≤v) (h1:v≤18446744073709551615) (w:World) :
  Calls Tryz.prog 232 #[.int .u64 v] w fun e w'=>e=.returned (.string ⟨(mL.digits 16 v.toNat).toArray⟩)∧Below w.heap.size w w':=by
 have:=mL.text v.toNat w (by omega)
 rwa [show ((v.toNat:Nat):Int)=v from by omega] at this
def id (x:Tx) (w:World) (hM:bA w) (hd:x.d.size≤maxLen) :
  Calls Tryz.prog 226 #[x.val] w fun e w'=>e=.returned (.string ⟨(DN x).toArray⟩)∧Below w.heap.size w w':=by
 have E:=Lib.hid (fun w hM=>encode x w hM hd)
 have hl:=zZ x
 have O:=Lib.hid (fun w=>mL.EL ⟨(fH x).toArray⟩ w (by show (fH x).length≤maxLen;unfold maxLen;omega))
 have hb:=mL.Fh (fH x)
 have T:=Lib.hid (fun w=>N6 (mL.xN (fH x)) hb.1 hb.2 w)
 have L0:=laid (Below.refl w.heap.size w) (.cells #[.int .i64 x.s,.int .i64 x.n,.int .i64 x.t,.int .i64 x.c,.int .i64 x.g,.string x.d] 26 (0,0))
 have hM0:=hM.later L0
 have ev:fH x=if x.ok then enc x else []:=rfl
 simp only [] at O
 unfold DN
 cases hok:x.ok with
 | false=>
  rw [hok] at E
  generalize fH x=V at E hl ev
  obtain ⟨s,n,t,c,g,d⟩:=x
  simp only [Tx.val] at E ⊢
  simp only [] at L0 hM0
  clear hok ev hd O T hb
  go_enter Tryz.func226,Tryz.ntmps226
  go_wp2_with fail
  refine (E.out _ hM0).mono ?_
  rintro e w1 ⟨rfl,hb1⟩
  go_wp2_with fail
  go_ret
  exact ⟨rfl,later L0 hb1⟩
 | true=>
  rw [hok,if_pos rfl] at ev
  rw [hok,ev] at E
  rw [ev] at O T hl
  clear hb
  generalize enc x=V at E O T hl
  obtain ⟨s,n,t,c,g,d⟩:=x
  simp only [Tx.val] at E ⊢
  simp only [] at L0 hM0
  clear hok ev hd
  simp only [if_true]
  generalize mL.xN V=hv at O T
  generalize mL.digits 16 hv.toNat=D at T
  go_enter Tryz.func226,Tryz.ntmps226
  go_wp2_with fail
  refine (E.out _ hM0).mono ?_
  rintro e w1 ⟨rfl,hb1⟩
  go_wp2_with fail
  refine (O.out _).mono ?_
  rintro e w2 ⟨rfl,rfl⟩
  go_wp2_with fail
  refine (T.out _).mono ?_
  rintro e w3 ⟨rfl,hb3⟩
  go_wp2_with fail
  go_ret
  exact ⟨rfl,later (later L0 hb1) hb3⟩
end Go.Proofs.YtdbjakibneeeiaaGreatDoor.txn
