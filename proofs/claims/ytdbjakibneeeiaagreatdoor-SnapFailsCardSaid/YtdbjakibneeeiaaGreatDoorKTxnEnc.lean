/- Layer 4 (txn: Encode) and the document's own Encode, by contract. -/
import Derived.Test.YtdbjakibneeeiaaGreatDoorKTxn
set_option linter.all false
set_option maxHeartbeats 4000000
set_option maxRecDepth 100000
namespace Go.Proofs.YtdbjakibneeeiaaGreatDoor.txn
open Go.RowKit cE
def enc (x:Tx):List UInt8:=[1]++num x.s.toNat++num x.n.toNat++num x.t.toNat++num x.c.toNat++num x.g.toNat++text x.d.data.toList
def fH (x:Tx):List UInt8:=if x.ok then enc x else []
def Ei (w:World) (b:Nat) (x:Tx):Prop:=w.cell? ⟨b,0,none⟩=some (.int .i64 x.s)∧w.cell? ⟨b,1,none⟩=some (.int .i64 x.n)∧w.cell? ⟨b,2,none⟩=some (.int .i64 x.t)∧w.cell? ⟨b,3,none⟩=some (.int .i64 x.c)∧w.cell? ⟨b,4,none⟩=some (.int .i64 x.g)∧w.cell? ⟨b,5,none⟩=some (.string x.d)∧b<w.heap.size
def Ei.later {w w':World} {b:Nat} {x:Tx} (h:Ei w b x) (k:Below w.heap.size w w'):Ei w' b x:=by
 obtain ⟨h0,h1,h2,h3,h4,h5,hz⟩:=h
 exact ⟨(k.cell hz).trans h0,(k.cell hz).trans h1,(k.cell hz).trans h2,(k.cell hz).trans h3,(k.cell hz).trans h4,(k.cell hz).trans h5,Nat.lt_of_lt_of_le hz k.size⟩
def Ei.own (w:World) (x:Tx) (ty:TypeId):Ei (w.alloc (.cells #[.int .i64 x.s,.int .i64 x.n,.int .i64 x.t,.int .i64 x.c,.int .i64 x.g,.string x.d] ty (0,0))) w.heap.size x:=
 ⟨by simp,by simp,by simp,by simp,by simp,by simp,by show w.heap.size<(w.heap.push _).size;simp⟩
def encode (x:Tx) (w:World) (hM:bA w) (hd:x.d.size≤maxLen) :
  Calls Tryz.prog 202 #[x.val] w fun e w'=>e=.returned (.tuple #[.string ⟨(fH x).toArray⟩,.bool x.ok])∧Below w.heap.size w w':=by
 have C:=Lib.hid (fun w hM=>check x w hM)
 have B0:=Ei.own w x 26
 have L0:=laid (Below.refl w.heap.size w) (.cells #[.int .i64 x.s,.int .i64 x.n,.int .i64 x.t,.int .i64 x.c,.int .i64 x.g,.string x.d] 26 (0,0))
 cases hok:x.ok with
 | false=>
  have e:fH x=[]:=by unfold fH;rw [hok];rfl
  rw [e]
  rw [hok] at C
  obtain ⟨s,n,t,c,g,d⟩:=x
  simp only [Tx.val] at C ⊢
  simp only [] at B0 L0
  go_enter Tryz.func202,Tryz.ntmps202
  go_wp2_with fail
  refine (C.out _ (hM.later L0)).mono ?_
  rintro e w1 ⟨rfl,hb1⟩
  go_wp2_with fail
  go_ret2
  exact ⟨rfl,later L0 hb1⟩
 | true=>
  have e:fH x=enc x:=by unfold fH;rw [hok];rfl
  rw [e]
  rw [hok] at C
  have hok2:=hok
  simp only [Tx.ok,decide_eq_true_eq] at hok2
  obtain ⟨s,n,t,c,g,d⟩:=x
  simp only [Tx.val] at C ⊢
  simp only [] at B0 L0 hok2
  have HV:Hid ((⟨(enc ⟨s,n,t,c,g,d⟩).toArray⟩:ByteArray)=⟨#[1]⟩++⟨(num s.toNat).toArray⟩++⟨(num n.toNat).toArray⟩++⟨(num t.toNat).toArray⟩++⟨(num c.toNat).toArray⟩++⟨(num g.toNat).toArray⟩++⟨(text d.data.toList).toArray⟩):=by
   refine Lib.hid ?_
   apply ByteArray.ext
   simp [enc]
  generalize (⟨(enc ⟨s,n,t,c,g,d⟩).toArray⟩:ByteArray)=V at HV ⊢
  have N:=Lib.hid (fun w=>numbers s n t c g d w)
  have num_i:∀k:Int,0≤k→k≤1099511627776→Hid (∀w,Calls Tryz.prog 221 #[.int .i64 k] w fun e w'=>e=.returned (.string ⟨(num k.toNat).toArray⟩)∧Below w.heap.size w w'):=by
   intro k h0 h1
   refine Lib.hid (fun w=>?_)
   have:=Cx k.toNat (by omega) w
   rwa [show ((k.toNat:Nat):Int)=k from by omega] at this
  have lnum:∀k:Int,k≤1099511627776→(num k.toNat).length≤9:=by
   intro k h
   have:=iw k.toNat (by omega)
   rw [iS]
   omega
  have N0:=num_i s (by omega) (by omega)
  have N1:=num_i n (by omega) (by omega)
  have N2:=num_i t (by omega) (by omega)
  have N3:=num_i c (by omega) (by omega)
  have N4:=num_i g (by omega) (by omega)
  have l0:=lnum s (by omega)
  have l1:=lnum n (by omega)
  have l2:=lnum t (by omega)
  have l3:=lnum c (by omega)
  have l4:=lnum g (by omega)
  have T:=Lib.hid (fun w=>ctext d w (by omega))
  have lt:(text d.data.toList).length≤300:=by rw [sY];simp;omega
  have A:=Vz #[.int .i64 s,.int .i64 n,.int .i64 t,.int .i64 c,.int .i64 g] rfl
  have a0:=A 0 (by omega) s rfl 0 rfl
  have a1:=A 1 (by omega) n rfl 1 rfl
  have a2:=A 2 (by omega) t rfl 2 rfl
  have a3:=A 3 (by omega) c rfl 3 rfl
  have a4:=A 4 (by omega) g rfl 4 rfl
  clear A num_i lnum hok hok2 e hd
  generalize num s.toNat=X0 at N0 l0 HV
  generalize num n.toNat=X1 at N1 l1 HV
  generalize num t.toNat=X2 at N2 l2 HV
  generalize num c.toNat=X3 at N3 l3 HV
  generalize num g.toNat=X4 at N4 l4 HV
  generalize text d.data.toList=X5 at T lt HV
  go_enter Tryz.func202,Tryz.ntmps202
  go_wp2_with fail
  generalize w.alloc (.cells #[.int .i64 s,.int .i64 n,.int .i64 t,.int .i64 c,.int .i64 g,.string d] 26 (0,0))=w0 at B0 L0 ⊢
  refine (C.out _ (hM.later L0)).mono ?_
  rintro e w1 ⟨rfl,hb1⟩
  have B0:=B0.later hb1
  have L0:=later L0 hb1
  clear hb1
  obtain ⟨c0,c1,c2,c3,c4,c5,_⟩:=id B0
  go_wp2_with fail
  refine (N.out _).mono ?_
  rintro e w2 ⟨rfl,hb1⟩
  clear c0 c1 c2 c3 c4 c5
  have B0:=B0.later hb1
  have L0:=later L0 hb1
  clear hb1
  go_wp2_with fail
  refine wp_loop_rounds 6 ?_
  rw [rounds_succ]
  go_wp2_with fail
  refine (N0.out _).mono ?_
  rintro e w3 ⟨rfl,hb1⟩
  have B0:=B0.later hb1
  have L0:=later L0 hb1
  clear hb1
  go_wp2_with fail
  rw [rounds_succ]
  go_wp2_with fail
  refine (N1.out _).mono ?_
  rintro e w4 ⟨rfl,hb1⟩
  have B0:=B0.later hb1
  have L0:=later L0 hb1
  clear hb1
  go_wp2_with fail
  rw [rounds_succ]
  go_wp2_with fail
  refine (N2.out _).mono ?_
  rintro e w5 ⟨rfl,hb1⟩
  have B0:=B0.later hb1
  have L0:=later L0 hb1
  clear hb1
  go_wp2_with fail
  rw [rounds_succ]
  go_wp2_with fail
  refine (N3.out _).mono ?_
  rintro e w6 ⟨rfl,hb1⟩
  have B0:=B0.later hb1
  have L0:=later L0 hb1
  clear hb1
  go_wp2_with fail
  rw [rounds_succ]
  go_wp2_with fail
  refine (N4.out _).mono ?_
  rintro e w7 ⟨rfl,hb1⟩
  have B0:=B0.later hb1
  have L0:=later L0 hb1
  clear hb1
  go_wp2_with fail
  rw [rounds_succ]
  obtain ⟨c0,c1,c2,c3,c4,c5,_⟩:=id B0
  go_wp2_with fail
  refine (T.out _).mono ?_
  rintro e w9 ⟨rfl,hb1⟩
  clear c0 c1 c2 c3 c4 c5
  have L0:=later L0 hb1
  go_wp2_with fail
  go_ret2
  exact ⟨by rw [HV.out];rfl,L0⟩
end Go.Proofs.YtdbjakibneeeiaaGreatDoor.txn
