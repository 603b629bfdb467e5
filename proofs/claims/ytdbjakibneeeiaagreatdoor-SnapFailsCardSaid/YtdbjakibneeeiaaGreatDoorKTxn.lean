/- Layer 4 (txn: numbersOf, Check) and the document's own Check, by contract. -/
import Derived.Test.YtdbjakibneeeiaaGreatDoorKCodecTakeT
import Derived.LaidLaws
set_option linter.all false
set_option maxHeartbeats 4000000
set_option maxRecDepth 100000
namespace Go.Proofs.YtdbjakibneeeiaaGreatDoor.txn
open Go.RowKit cE
structure Tx where
 s:Int
 n:Int
 t:Int
 c:Int
 g:Int
 d:ByteArray
def Tx.val (x:Tx):Value:=.agg #[.int .i64 x.s,.int .i64 x.n,.int .i64 x.t,.int .i64 x.c,.int .i64 x.g,.string x.d]
def Tx.ok (x:Tx):Bool:=decide (0≤x.s∧x.s≤255∧0≤x.n∧x.n≤4294967295∧0≤x.t∧x.t≤1099511627776∧x.t≤x.c∧x.c≤1099511627776∧1≤x.g∧x.g≤1073741824∧x.d.size≤256)
def bA (w:World):Prop:=w.cell? ⟨0,0,none⟩=some (.int .i64 255)∧w.cell? ⟨0,1,none⟩=some (.int .i64 4294967295)∧w.cell? ⟨0,2,none⟩=some (.int .i64 1099511627776)∧w.cell? ⟨0,3,none⟩=some (.int .i64 1099511627776)∧w.cell? ⟨0,4,none⟩=some (.int .i64 1073741824)∧0<w.heap.size
def bA.later {w w':World} (h:bA w) (k:Below w.heap.size w w'):bA w':=by
 obtain ⟨h0,h1,h2,h3,h4,hz⟩:=h
 exact ⟨(k.cell hz).trans h0,(k.cell hz).trans h1,(k.cell hz).trans h2,(k.cell hz).trans h3,(k.cell hz).trans h4,Nat.lt_of_lt_of_le hz k.size⟩
def zj {a b:Bool} (h:a=b):Ending.returned (.bool a)=.returned (.bool b):=by rw [h]
def numbers (s n t c g:Int) (d:ByteArray) (w:World) :
  Calls Tryz.prog 200 #[.agg #[.int .i64 s,.int .i64 n,.int .i64 t,.int .i64 c,.int .i64 g,.string d]] w fun e w'=>e=.returned (.agg #[.int .i64 s,.int .i64 n,.int .i64 t,.int .i64 c,.int .i64 g])∧Below w.heap.size w w':=by
 go_enter Tryz.func200,Tryz.ntmps200
 go_wp2_with fail
 refine bodyPost_ret (v:=.agg #[.int .i64 s,.int .i64 n,.int .i64 t,.int .i64 c,.int .i64 g]) (by simp [results,Tryz.results200,go_sem]) rfl ⟨rfl,?_⟩
 exact laid (laid (Below.refl _ _) _) _
def Vz (cs:Array Value) (h:cs.size=5) (i:Nat) (hi:i<5) (x:Int) (hx:cs[i]?=some (.int .i64 x)) (k:Int) (hk:k=i) (w:World) :
  (Instr.index 205 (.agg cs) (.int .i64 k)).run Tryz.prog w=.ok (.int .i64 x) w:=by
 subst hk
 simp [Instr.index,run_underlying Tryz.underlying205,asIntOf,go_sem,h,hi]
 obtain ⟨h1,h2⟩:=Array.getElem?_eq_some_iff.1 hx
 exact h2
def check (x:Tx) (w:World) (hM:bA w) :
  Calls Tryz.prog 163 #[x.val] w fun e w'=>e=.returned (.bool x.ok)∧Below w.heap.size w w':=by
 obtain ⟨s,n,t,c,g,d⟩:=x
 simp only [Tx.val]
 have N:=Lib.hid (fun w=>numbers s n t c g d w)
 go_enter Tryz.func163,Tryz.ntmps163
 go_wp2_with fail
 have F:∃w0,w0=(w.alloc (.cells #[.int .i64 s,.int .i64 n,.int .i64 t,.int .i64 c,.int .i64 g,.string d] 26 (0,0))).alloc (.cells #[.int .i64 0,.int .i64 0,.int .i64 0,.int .i64 t,.int .i64 1] 205 (0,0))∧Below w.heap.size w w0∧w0.cell? ⟨w.heap.size,5,none⟩=some (.string d)∧
   w0.cell? ⟨w.heap.size+1,0,none⟩=some (.int .i64 0)∧w0.cell? ⟨w.heap.size+1,1,none⟩=some (.int .i64 0)∧w0.cell? ⟨w.heap.size+1,2,none⟩=some (.int .i64 0)∧w0.cell? ⟨w.heap.size+1,3,none⟩=some (.int .i64 t)∧w0.cell? ⟨w.heap.size+1,4,none⟩=some (.int .i64 1)∧w.heap.size+1<w0.heap.size:=
  ⟨_,rfl,laid (laid (Below.refl _ _) _) _,by simp,by simp,by simp,by simp,by simp,by simp,by show w.heap.size+1<((w.heap.push _).push _).size;simp⟩
 obtain ⟨w0,hw0,hbel,hd,l0,l1,l2,l3,l4,hz⟩:=F
 rw [← hw0]
 clear hw0
 refine (N.out _).mono ?_
 rintro e w1 ⟨rfl,hb1⟩
 have hd:=(hb1.cell (show w.heap.size<_ by omega)).trans hd
 have l0:=(hb1.cell hz).trans l0
 have l1:=(hb1.cell hz).trans l1
 have l2:=(hb1.cell hz).trans l2
 have l3:=(hb1.cell hz).trans l3
 have l4:=(hb1.cell hz).trans l4
 obtain ⟨m0,m1,m2,m3,m4,_⟩:=(hM.later hbel).later hb1
 have hbel:=later hbel hb1
 clear hb1 hz N hM
 have A:=Vz #[.int .i64 s,.int .i64 n,.int .i64 t,.int .i64 c,.int .i64 g] rfl
 have a0:=A 0 (by omega) s rfl 0 rfl
 have a1:=A 1 (by omega) n rfl 1 rfl
 have a2:=A 2 (by omega) t rfl 2 rfl
 have a3:=A 3 (by omega) c rfl 3 rfl
 have a4:=A 4 (by omega) g rfl 4 rfl
 clear A
 go_wp2_with fail
 refine wp_loop_rounds 6 ?_
 repeat any_goals (rw [rounds_succ];go_wp2_with fail)
 all_goals
  go_ret
  refine ⟨zj ?_,hbel⟩
  rw [Bool.eq_iff_iff]
  simp [Tx.ok]
  omega
def ET (x:Tx) (w:World) :
  Calls Tryz.prog 68 #[x.val] w fun e w'=>e=.returned (.bool x.ok)∧Below w.heap.size w w':=by
 obtain ⟨s,n,t,c,g,d⟩:=x
 simp only [Tx.val]
 go_enter Tryz.func68,Tryz.ntmps68
 go_wp2_with fail
 all_goals
  go_ret
  refine ⟨zj ?_,laid (Below.refl _ _) _⟩
  rw [Bool.eq_iff_iff]
  simp [Tx.ok]
  omega
end Go.Proofs.YtdbjakibneeeiaaGreatDoor.txn
