/- The document's own Encode (hopperref04), by contract. -/
import Derived.Test.YtdbjakibneeeiaaGreatDoorKTxnEnc
import Derived.Test.YtdbjakibneeeiaaGreatDoorKG5CodecRefNum
set_option linter.all false
set_option maxHeartbeats 4000000
set_option maxRecDepth 100000
namespace Go.Proofs.YtdbjakibneeeiaaGreatDoor.txn
open Go.RowKit cE
def DI (w:World) (b:Nat) (s n t c g:Int):Prop:=w.cell? ⟨b,0,none⟩=some (.int .i64 s)∧w.cell? ⟨b,1,none⟩=some (.int .i64 n)∧w.cell? ⟨b,2,none⟩=some (.int .i64 t)∧w.cell? ⟨b,3,none⟩=some (.int .i64 c)∧w.cell? ⟨b,4,none⟩=some (.int .i64 g)∧b<w.heap.size
def DI.later {w w':World} {b:Nat} {s n t c g:Int} (h:DI w b s n t c g) (k:Below w.heap.size w w'):DI w' b s n t c g:=by
 obtain ⟨h0,h1,h2,h3,h4,hz⟩:=h
 exact ⟨(k.cell hz).trans h0,(k.cell hz).trans h1,(k.cell hz).trans h2,(k.cell hz).trans h3,(k.cell hz).trans h4,Nat.lt_of_lt_of_le hz k.size⟩
def DI.own (w:World) (s n t c g:Int) (ty:TypeId):DI (w.alloc (.cells #[.int .i64 s,.int .i64 n,.int .i64 t,.int .i64 c,.int .i64 g] ty (0,0))) w.heap.size s n t c g:=
 ⟨by simp,by simp,by simp,by simp,by simp,by show w.heap.size<(w.heap.push _).size;simp⟩
def Ib (x:Tx) (w:World) (hd:x.d.size≤maxLen) :
  Calls Tryz.prog 33 #[x.val] w fun e w'=>e=.returned (.tuple #[.string ⟨(fH x).toArray⟩,.bool x.ok])∧Below w.heap.size w w':=by
 have C:=Lib.hid (fun w=>ET x w)
 have B0:=Ei.own w x 26
 have L0:=laid (Below.refl w.heap.size w) (.cells #[.int .i64 x.s,.int .i64 x.n,.int .i64 x.t,.int .i64 x.c,.int .i64 x.g,.string x.d] 26 (0,0))
 cases hok:x.ok with
 | false=>
  have e:fH x=[]:=by unfold fH;rw [hok];rfl
  rw [e]
  rw [hok] at C
  obtain ⟨s,n,t,c,g,d⟩:=x
  simp only [Tx.val] at C ⊢
  simp only [] at B0 L0
  go_enter Tryz.func33,Tryz.ntmps33
  go_wp2_with fail
  refine (C.out _).mono ?_
  rintro e w1 ⟨rfl,hb1⟩
  go_wp2_with fail
  go_ret2
  exact ⟨rfl,later L0 hb1⟩
 | true=>
  have e:fH x=enc x:=by unfold fH;rw [hok];rfl
  rw [e]
  rw [hok] at C
  have hok2:=hok
  simp only [Tx.ok,decide_eq_true_eq] at hok2
  obtain ⟨s,n,t,c,g,d⟩:=x
  simp only [Tx.val] at C ⊢
  simp only [] at B0 L0 hok2
  have HV:Hid ((⟨(enc ⟨s,n,t,c,g,d⟩).toArray⟩:ByteArray)=⟨#[1]⟩++⟨(num s.toNat).toArray⟩++⟨(num n.toNat).toArray⟩++⟨(num t.toNat).toArray⟩++⟨(num c.toNat).toArray⟩++⟨(num g.toNat).toArray⟩++⟨(text d.data.toList).toArray⟩):=by
   refine Lib.hid ?_
   apply ByteArray.ext
   simp [enc]
  generalize (⟨(enc ⟨s,n,t,c,g,d⟩).toArray⟩:ByteArray)=V at HV ⊢
  have num_i:∀k:Int,0≤k→k≤1099511627776→Hid (∀w,Calls Tryz.prog 69 #[.int .i64 k] w fun e w'=>e=.returned (.string ⟨(num k.toNat).toArray⟩)∧Below w.heap.size w w'):=by
   intro k h0 h1
   refine Lib.hid (fun w=>?_)
   have:=Cj k.toNat (by omega) w
   rwa [show ((k.toNat:Nat):Int)=k from by omega] at this
  have lnum:∀k:Int,k≤1099511627776→(num k.toNat).length≤9:=by
   intro k h
   have:=iw k.toNat (by omega)
   rw [iS]
   omega
  have N0:=num_i s (by omega) (by omega)
  have N1:=num_i n (by omega) (by omega)
  have N2:=num_i t (by omega) (by omega)
  have N3:=num_i c (by omega) (by omega)
  have N4:=num_i g (by omega) (by omega)
  have l0:=lnum s (by omega)
  have l1:=lnum n (by omega)
  have l2:=lnum t (by omega)
  have l3:=lnum c (by omega)
  have l4:=lnum g (by omega)
  have T:=Lib.hid (fun w=>G7 d w (by omega))
  have lt:(text d.data.toList).length≤300:=by rw [sY];simp;omega
  clear num_i lnum hok hok2 e hd
  generalize num s.toNat=X0 at N0 l0 HV
  generalize num n.toNat=X1 at N1 l1 HV
  generalize num t.toNat=X2 at N2 l2 HV
  generalize num c.toNat=X3 at N3 l3 HV
  generalize num g.toNat=X4 at N4 l4 HV
  generalize text d.data.toList=X5 at T lt HV
  go_enter Tryz.func33,Tryz.ntmps33
  go_wp2_with fail
  generalize w.alloc (.cells #[.int .i64 s,.int .i64 n,.int .i64 t,.int .i64 c,.int .i64 g,.string d] 26 (0,0))=w0 at B0 L0 ⊢
  refine (C.out _).mono ?_
  rintro e w1 ⟨rfl,hb1⟩
  have B0:=B0.later hb1
  have L0:=later L0 hb1
  clear hb1
  obtain ⟨c0,c1,c2,c3,c4,c5,_⟩:=id B0
  go_wp2_with fail
  have F0:=DI.own w1 s n t c g 3
  have L0:=laid L0 (.cells #[.int .i64 s,.int .i64 n,.int .i64 t,.int .i64 c,.int .i64 g] 3 (0,0))
  have B0:=B0.later (laid (Below.refl _ _) (.cells #[.int .i64 s,.int .i64 n,.int .i64 t,.int .i64 c,.int .i64 g] 3 (0,0)))
  generalize w1.alloc (.cells #[.int .i64 s,.int .i64 n,.int .i64 t,.int .i64 c,.int .i64 g] 3 (0,0))=w2 at F0 L0 B0 ⊢
  clear c0 c1 c2 c3 c4 c5
  refine wp_loop_rounds 6 ?_
  rw [rounds_succ]
  have f0:=F0.1
  go_wp2_with fail
  refine (N0.out _).mono ?_
  rintro e w3 ⟨rfl,hb1⟩
  clear f0
  have B0:=B0.later hb1
  have F0:=F0.later hb1
  have L0:=later L0 hb1
  clear hb1
  go_wp2_with fail
  rw [rounds_succ]
  have f1:=F0.2.1
  go_wp2_with fail
  refine (N1.out _).mono ?_
  rintro e w4 ⟨rfl,hb1⟩
  clear f1
  have B0:=B0.later hb1
  have F0:=F0.later hb1
  have L0:=later L0 hb1
  clear hb1
  go_wp2_with fail
  rw [rounds_succ]
  have f2:=F0.2.2.1
  go_wp2_with fail
  refine (N2.out _).mono ?_
  rintro e w5 ⟨rfl,hb1⟩
  clear f2
  have B0:=B0.later hb1
  have F0:=F0.later hb1
  have L0:=later L0 hb1
  clear hb1
  go_wp2_with fail
  rw [rounds_succ]
  have f3:=F0.2.2.2.1
  go_wp2_with fail
  refine (N3.out _).mono ?_
  rintro e w6 ⟨rfl,hb1⟩
  clear f3
  have B0:=B0.later hb1
  have F0:=F0.later hb1
  have L0:=later L0 hb1
  clear hb1
  go_wp2_with fail
  rw [rounds_succ]
  have f4:=F0.2.2.2.2.1
  go_wp2_with fail
  refine (N4.out _).mono ?_
  rintro e w7 ⟨rfl,hb1⟩
  clear f4
  have B0:=B0.later hb1
  have F0:=F0.later hb1
  have L0:=later L0 hb1
  clear hb1
  go_wp2_with fail
  rw [rounds_succ]
  obtain ⟨c0,c1,c2,c3,c4,c5,_⟩:=id B0
  go_wp2_with fail
  refine (T.out _).mono ?_
  rintro e w9 ⟨rfl,hb1⟩
  clear c0 c1 c2 c3 c4 c5
  have L0:=later L0 hb1
  go_wp2_with fail
  go_ret2
  exact ⟨by rw [HV.out];rfl,L0⟩
end Go.Proofs.YtdbjakibneeeiaaGreatDoor.txn
