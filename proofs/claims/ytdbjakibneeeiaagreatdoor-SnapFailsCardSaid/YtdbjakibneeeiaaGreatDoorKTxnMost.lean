/- What the listed variable hopper/txn.most holds. -/
import Derived.Test.YtdbjakibneeeiaaGreatDoorRows
import Derived.Test.YtdbjakibneeeiaaGreatDoorKTxn
import Derived.OpenShut
import Derived.ChangeOld
import Derived.LaidLaws
set_option linter.all false
set_option maxHeartbeats 4000000
set_option maxRecDepth 100000
namespace Go.Proofs.YtdbjakibneeeiaaGreatDoor.txn
open Go.RowKit Go.ChangeShapes Go.WideShapes
def xy {W:World} (h:laidMet Tryz.prog [("hopper/txn.most",Rows.laid_hopper_txn_most)] W):bA W:=by
 obtain ⟨ps,⟨g,t,cs,fuel,p,q,hg,ht,hvar,hd,_,_⟩,_⟩:=h
 obtain rfl:=Option.some.inj ((show Tryz.prog.globalNamed "hopper/txn.most" = some 0 by kernel_rfl).symm.trans hg)
 obtain rfl:=Option.some.inj ((show (Tryz.prog.globals[0]?).map (·.type)=some 205 by kernel_rfl).symm.trans ht)
 obtain ⟨xs,m,_,hx,hlen,hn,hi⟩:=DataW.trod_array Tryz.underlying205 hd
 have h5:cs.toList.length=5:=hlen.trans (by kernel_rfl)
 obtain ⟨l⟩:=cs
 match l,h5 with
 | [c0,c1,c2,c3,c4],_=>
  match xs,hn with
  | [y0,y1,y2,y3,y4],_=>
   have k3:Tryz.prog.cellsOf 3=1:=by kernel_rfl
   have g0:=hi 0 (by omega)
   have g1:=hi 1 (by omega)
   have g2:=hi 2 (by omega)
   have g3:=hi 3 (by omega)
   have g4:=hi 4 (by omega)
   simp [k3] at g0 g1 g2 g3 g4
   obtain ⟨a0,e0,f0,_⟩:=DataW.trod_int Tryz.underlying3 g0
   obtain ⟨a1,e1,f1,_⟩:=DataW.trod_int Tryz.underlying3 g1
   obtain ⟨a2,e2,f2,_⟩:=DataW.trod_int Tryz.underlying3 g2
   obtain ⟨a3,e3,f3,_⟩:=DataW.trod_int Tryz.underlying3 g3
   obtain ⟨a4,e4,f4,_⟩:=DataW.trod_int Tryz.underlying3 g4
   simp at e0 e1 e2 e3 e4
   subst e0 e1 e2 e3 e4 f0 f1 f2 f3 f4
   simp [Rows.laid_hopper_txn_most] at hx
   obtain ⟨⟨r0,r1,r2,r3,r4⟩,_⟩:=hx
   subst r0 r1 r2 r3 r4
   have z0:=World.var?_cell hg hvar 0
   have z1:=World.var?_cell hg hvar 1
   have z2:=World.var?_cell hg hvar 2
   have z3:=World.var?_cell hg hvar 3
   have z4:=World.var?_cell hg hvar 4
   have hz:0<W.heap.size:=by
    rcases Nat.eq_zero_or_pos W.heap.size with h0 | h0
    ·exfalso
     simp [World.cell?,Array.getElem?_eq_none (show W.heap.size≤0 by omega)] at z0
    ·exact h0
   exact ⟨by simpa using z0,by simpa using z1,by simpa using z2,by simpa using z3,by simpa using z4,hz⟩
end Go.Proofs.YtdbjakibneeeiaaGreatDoor.txn
