/- The walk of hopperlaw16.TaskTwo. -/
import Derived.Test.YtmoopmcdolonjaaGreatDoorKTkW
import Derived.Test.YtmoopmcdolonjaaGreatDoorKTkRR
import Derived.Test.YtmoopmcdolonjaaGreatDoorKTkWB
set_option linter.all false
set_option maxHeartbeats 40000000
set_option maxRecDepth 100000
namespace Go.Proofs.YtmoopmcdolonjaaGreatDoor.taskTwo
open Go.RowKit Sx txn queue greedy shard pool Go.Proofs.YtmoopmcdolonjaaGreatDoor.look lock Go.Proofs.YtmoopmcdolonjaaGreatDoor.task
abbrev sch5:List (Nat×(Ord×List Nat)):=[(4,(line [0,1,2,3,4,5,6,7,8,9,10,11,12,13,14,15,16,17,18,19,20,21,22,23,24,25,26,27,28,29,30,31,32,33,34,35,36],[])),(6,(.one 0 (.one 1 (.one 3 (.one 4 (.fork 2 (.fork 5 (.one 6 (.one 7 (.one 8 (.done)))) 7 (.one 5 (.one 6 (.one 8 (.done))))) 7 (.one 2 (.one 5 (.one 6 (.one 8 (.done))))))))),[])),(15,(.one 0 (.one 1 (.one 2 (.one 3 (.one 4 (.one 5 (.fork3 6 (.one 7 (.one 8 (.one 9 (.one 10 (.one 11 (.fork 12 (.one 13 (.one 14 (.one 15 (.one 16 (.one 17 (.done)))))) 13 (.one 12 (.one 14 (.one 15 (.one 16 (.one 17 (.done)))))))))))) 12 (.fork 6 (.one 7 (.one 8 (.one 9 (.one 10 (.one 11 (.one 13 (.one 14 (.one 15 (.one 16 (.one 17 (.done))))))))))) 13 (.one 6 (.one 7 (.one 8 (.one 9 (.one 10 (.one 11 (.one 14 (.one 15 (.one 16 (.one 17 (.done)))))))))))) 13 (.fork 6 (.one 7 (.one 8 (.one 9 (.one 10 (.one 11 (.one 12 (.one 14 (.one 15 (.one 16 (.one 17 (.done))))))))))) 12 (.one 6 (.one 7 (.one 8 (.one 9 (.one 10 (.one 11 (.one 14 (.one 15 (.one 16 (.one 17 (.done)))))))))))))))))),[])),(22,(.one 0 (.one 1 (.one 2 (.one 3 (.one 4 (.one 5 (.fork 6 (.one 7 (.one 8 (.one 9 (.one 10 (.one 11 (.one 12 (.one 13 (.one 14 (.done))))))))) 11 (.one 6 (.one 7 (.one 8 (.one 9 (.one 10 (.one 12 (.one 13 (.one 14 (.done))))))))))))))),[])),(23,(.one 0 (.one 1 (.one 2 (.one 3 (.one 4 (.one 5 (.one 6 (.fork 7 (.one 8 (.one 9 (.one 10 (.one 11 (.one 12 (.one 13 (.one 14 (.one 15 (.done))))))))) 12 (.one 7 (.one 8 (.one 9 (.one 10 (.one 11 (.one 13 (.one 14 (.one 15 (.done)))))))))))))))),[])),(24,(line [0,1,2,3,4,5,6,7,8,9,10,11,12,13,14,15,16,20,17,18,19,21,22,23,24,25,26],[]))]
theorem all256 {s:Sg} {x:Sn} (hm:mayS s=true) (hx:Sgo x s):(allS x.S).length≤100000:=by
 have key:∀(S:List Shd),(∀q∈S,q.L.length≤256)→(allS S).length≤S.length*256:=by
  intro S
  induction S with
  |nil=>intro _;simp[allS]
  |cons q S ih=>
   intro h
   have h1:=h q (.head _)
   have h2:=ih fun p hp=>h p (.tail _ hp)
   unfold allS at *
   rw[List.flatMap_cons,List.length_append,List.length_cons]
   omega
 have h1:=key x.S fun q hq=>by
  have h2:shdP q∈s.S:=by rw[← hx.2.2.2];exact List.mem_map.2 ⟨q,hq,rfl⟩
  obtain⟨k,hk⟩:=List.mem_iff_getElem?.1 h2
  have:=may_len hm hk
  have h3:(q.L.map acP).length≤256:=this
  rw[List.length_map] at h3
  exact h3
 have:=(may_small hm).2
 have:=sgs_len hx
 omega
theorem join_facts {x:Sn} {s:Sg} (hx:Sgo x s):∀z∈srt (fun z:Ac=>z.s) (allS x.S),z.fit∧acF z∈sgF x s:=fun z hz=>by
 have hz2:=(srt_perm (fun z:Ac=>z.s) (allS x.S)).mem_iff.1 hz
 obtain⟨q,hq,hzq⟩:=List.mem_flatMap.1 hz2
 exact⟨(hx.2.2.1 q hq).2.2 z hzq,.tail _ (acF_all hz2)⟩
theorem zstep {l:List Int} {k:Nat} (h:∀j,j<k→l[j]?=some 0) (hz:l[k]?=some (0:Int)):∀j,j<k+1→l[j]?=some 0:=fun j hj=>by
 rcases Nat.lt_or_ge j k with h1|h1
 ·exact h j h1
 ·obtain rfl:j=k:=by omega
  exact hz
theorem join_len {s:Sg} (hm:mayS s=true):(joinS s.S).length≤2048:=by
 have h1:=(may_small hm).2
 have key:∀(S:List (List PA×Int)),(∀q∈S,q.1.length≤256)→(S.flatMap fun q=>q.1).length≤S.length*256:=by
  intro S
  induction S with
  |nil=>intro _;simp
  |cons q S ih=>
   intro h
   have h1:=h q (.head _)
   have h2:=ih fun p hp=>h p (.tail _ hp)
   rw[List.flatMap_cons,List.length_append,List.length_cons]
   omega
 have h3:=key s.S fun q hq=>by
  obtain⟨k,hk⟩:=List.mem_iff_getElem?.1 hq
  exact may_len hm hk
 unfold joinS
 rw[srt_len]
 omega
theorem tpl_may {s:Sg} (hm:mayS s=true) (g:Int):(tplP (joinS s.S) g).length≤1000000:=by
 unfold tplP templateV
 refine Nat.le_trans (pool.tplV_le _ _) ?_
 unfold sizeL
 have hl:∀p∈joinS s.S,p.2.2.length≤16:=fun p hp=>by
  obtain⟨k,q,hk,hpq⟩:=join_mem.1 hp
  have:=(shCheck_iff.1 (may_shard hm hk)).2.1 p hpq
  have:=(good_iff.1 this.1).1
  omega
 have hj2:=join_len hm
 have h1:((firstsV ((joinS s.S).map toA)).map fun x=>lineV x.b x.l).length≤2048:=by
  rw[List.length_map]
  have:=firstsV_le ((joinS s.S).map toA) ((joinS s.S).map toA).length
  rw[List.take_length,List.length_map] at this
  omega
 refine Nat.le_trans (sum_le (k:=16) fun z hz=>?_) ?_
 ·obtain⟨r,hr,rfl⟩:=List.mem_map.1 hz
  obtain⟨x,hx,rfl⟩:=List.mem_map.1 hr
  refine Nat.le_trans (lineV_le _ _) ?_
  obtain⟨p,hp,rfl⟩:=List.mem_map.1 (firstsV_mem hx)
  exact hl p hp
 ·rw[List.length_map];omega
structure Iw where
 k:Nat
 t0:Tk
 t1:Tk
 y0:Tn
 y1:Tn
 s:Sg
 x:Sn
 f:Int
def Iw.ok (c:task.Two) (n:Nat) (i:Iw):Prop:=i.k≤n+30∧W2 c i.t0 i.t1 i.s (i.f==0) (i.f==1)∧(i.f = -1∨i.f=0∨i.f=1)∧i.y0.ok i.t0∧i.y1.ok i.t1∧Sgo i.x i.s∧(i.k % 2=0→Mz ((i.k:Int) - n) c i.t0 i.t1 i.s)∧(i.k % 2=1→Mz ((i.k:Int) - n) c.sw i.t1 i.t0 i.s)
theorem walk (O P:Oq) (s0:Sg) (x0:Sn) (ba:Option Addr) (bn bc:Nat) (bs:List Bool) (w:World) (hM:Most w) (hO:O.fits∧P.fits) (hI:SgIn w x0 s0∧s0.fits) (hB:Sl ba bn bc∧bn=bs.length∧At w (pt ba bn) (bs.map Value.bool)) (hbk:4*(allS x0.S).length+x0.S.length≤1048576) :
  Calls Tryz.prog 5 (List.toArray [.agg (O.cs++P.cs).toArray,sgV s0 x0,.slice ba bn bc]) w fun e w'=>e=.returned (.bool true)∧Below w.heap.size w w':=by
 obtain⟨hI,_⟩:=hI
 obtain⟨hB1,hB2,hB3⟩:=hB
 obtain⟨hO,hP⟩:=hO
 have SM:=fun w' (h:SgIn w' x0 s0)=>small s0 x0 w' h
 have hsm:=fun (hb:smallB x0 s0=true)=>hI.small hb
 have RJ:=fun w hF=>rjoinW x0.S x0.sa x0.S.length x0.sc w hI.2.1.1 rfl (fun q hq=>⟨(hI.2.1.2.2.2 q hq).1.1,(hI.2.1.2.2.2 q hq).1.2.1⟩) hF (by omega)
 have hjl:=srt_len (fun z:Ac=>z.s) (allS x0.S)
 have hjm:=join_map x0.S
 have hjf:=fun hx:Sgo x0 s0=>join_facts hx
 generalize srt (fun z:Ac=>z.s) (allS x0.S)=JL at *
 generalize smallB x0 s0=sb at *
 refine calls_of_exec Sxw.env_ok.keeps Tryz.func5 rfl sch5 (by kernel_rfl) (rowF (pt ba bn) (bs.map Value.bool)::sgF x0 s0) (fun φ hφ=>(List.mem_cons.1 hφ).elim (fun e=>by subst e;exact hB3) (fun h=>hI.facts φ h)) ?_
 conv=>arg 5;whnf
 refine meet1F (f:=10) (n:=JL.length) (v:=fun a1 c1=>.slice a1 JL.length c1) (xs:=cellsA JL) rfl (by kernel_rfl) (fun β ρ w' hM'=>RJ w' (fun φ hφ g hg=>(hM'.fact φ (show φ∈(rowF (pt ba bn) (bs.map Value.bool)::sgF x0 s0) from .tail _ (.tail _ hφ)) g hg).2)) (fun u c_u h_u f_u=>?_)
 conv=>arg 5;whnf
 refine meetc (f:=7) (v:=.bool sb) rfl (by kernel_rfl) (fun β ρ w' hM'=>SM w' (hI.mem hM' fun φ hφ=>(show φ∈(G1 u JL ba bn bs x0 s0) from .tail _ (.tail _ hφ)))) ?_
 cases sb with
 |false=>
  conv=>arg 5;whnf
  refine meetc (f:=9) (v:=.bool true) rfl (by kernel_rfl) (fun β ρ w' hM'=>task.live w' (hM.later hM'.below)) ?_
  conv=>arg 5;whnf
  exact wp_back fun β ρ w' hM'=>⟨rfl,hM'.below⟩
 |true=>
  obtain⟨hx0,hl10,hS10,hq20,hz20⟩:=hsm rfl
  have MY:=fun w hM hS=>rmay s0 x0 w hM hS (fun q hq=>Nat.le_trans (hq20 q hq) (by decide))
  cases hmy:mayS s0 with
  |false=>
   rw[hmy] at MY
   conv=>arg 5;whnf
   refine meetc (f:=8) (v:=.bool false) rfl (by kernel_rfl) (fun β ρ w' hM'=>MY w' (hM.later hM'.below) (sgs_of hM' hx0 fun φ hφ=>(show φ∈(G1 u JL ba bn bs x0 s0) from .tail _ (.tail _ hφ)))) ?_
   conv=>arg 5;whnf
   refine meetc (f:=9) (v:=.bool true) rfl (by kernel_rfl) (fun β ρ w' hM'=>task.live w' (hM.later hM'.below)) ?_
   conv=>arg 5;whnf
   exact wp_back fun β ρ w' hM'=>⟨rfl,hM'.below⟩
  |true=>
   rw[hmy] at MY
   conv=>arg 5;whnf
   refine meetc (f:=8) (v:=.bool true) rfl (by kernel_rfl) (fun β ρ w' hM'=>MY w' (hM.later hM'.below) (sgs_of hM' hx0 fun φ hφ=>(show φ∈(G1 u JL ba bn bs x0 s0) from .tail _ (.tail _ hφ)))) ?_
   conv=>arg 5;whnf
   refine wp_g0 (fun h2=>?_) (fun h2=>?_)
   rotate_left
   ·skip
    conv=>arg 5;whnf
    refine meetc (f:=9) (v:=.bool true) rfl (by kernel_rfl) (fun β ρ w' hM'=>task.live w' (hM.later hM'.below)) ?_
    conv=>arg 5;whnf
    exact wp_back fun β ρ w' hM'=>⟨rfl,hM'.below⟩
   have hb40:bn≤40:=by have h3:¬ (40:Int)<(bn:Int):=of_decide_eq_false h2;omega
   conv=>arg 5;whnf
   refine wp_g0 (fun h2=>?_) (fun h2=>?_)
   rotate_left
   ·skip
    conv=>arg 5;whnf
    refine meetc (f:=9) (v:=.bool true) rfl (by kernel_rfl) (fun β ρ w' hM'=>task.live w' (hM.later hM'.below)) ?_
    conv=>arg 5;whnf
    exact wp_back fun β ρ w' hM'=>⟨rfl,hM'.below⟩
   have hl1:s0.l.length=1:=by have h3:(!((s0.l.length:Int)==1))=false:=h2;simp at h3;omega
   conv=>arg 5;whnf
   refine wp_must ⟨by decide,by decide⟩ ?_
   conv=>arg 5;whnf
   refine wp_g0 (fun h2=>?_) (fun h2=>?_)
   rotate_left
   ·skip
    conv=>arg 5;whnf
    refine meetc (f:=9) (v:=.bool true) rfl (by kernel_rfl) (fun β ρ w' hM'=>task.live w' (hM.later hM'.below)) ?_
    conv=>arg 5;whnf
    exact wp_back fun β ρ w' hM'=>⟨rfl,hM'.below⟩
   have hdO:O.d.size≤1000000:=by have h3:¬ (500:Int)<(O.d.size:Int):=of_decide_eq_false h2;omega
   conv=>arg 5;whnf
   refine wp_must ⟨by decide,by decide⟩ ?_
   conv=>arg 5;whnf
   refine wp_br (fun h2=>?_) (fun h2=>?_)
   ·skip
    conv=>arg 5;whnf
    refine meetc (f:=9) (v:=.bool true) rfl (by kernel_rfl) (fun β ρ w' hM'=>task.live w' (hM.later hM'.below)) ?_
    conv=>arg 5;whnf
    exact wp_back fun β ρ w' hM'=>⟨rfl,hM'.below⟩
   have hdP:P.d.size≤1000000:=by have h3:¬ (500:Int)<(P.d.size:Int):=of_decide_eq_false h2;omega
   obtain⟨z,hz⟩:∃z,s0.l[0]?=some z:=⟨_,List.getElem?_eq_getElem (by omega)⟩
   have hlt:0<s0.l.length:=by omega
   conv=>arg 5;whnf
   refine wp_must ⟨by omega,by show (0:Int)<(s0.l.length:Int);omega,hx0.1.some hlt⟩ ?_
   conv=>arg 5;whnf
   refine readF (sz:=1) (k:=0) (f:=0) (.int .i64 z) rfl (show rowF (pt x0.la s0.l.length) (ic s0.l)∈(G1 u JL ba bn bs x0 s0) from .tail _ (.tail _ (.head _))) hlt (hx0.1.some hlt) (ic_get hz) rfl ?_
   conv=>arg 5;whnf
   refine wp_g0 (fun h2=>?_) (fun h2=>?_)
   rotate_left
   ·skip
    conv=>arg 5;whnf
    refine meetc (f:=9) (v:=.bool true) rfl (by kernel_rfl) (fun β ρ w' hM'=>task.live w' (hM.later hM'.below)) ?_
    conv=>arg 5;whnf
    exact wp_back fun β ρ w' hM'=>⟨rfl,hM'.below⟩
   have hz0:z=0:=by have h5:(!(z==0))=false:=h2;simpa using h5
   conv=>arg 5;whnf
   refine meetc (f:=11) (v:=.int .i64 (slotsA JL)) rfl (by kernel_rfl) (fun β ρ w' hM'=>rslots JL u JL.length c_u w' (⟨h_u,rfl,hM'.at_ (show rowF (pt u JL.length) (cellsA JL)∈(G1 u JL ba bn bs x0 s0) from .head _),fun z hz=>⟨(hjf hx0 z hz).1,hM'.at_ (a:=pt z.a z.n) (xs:=cellsL z.l) (show acF z∈(G1 u JL ba bn bs x0 s0) from .tail _ (.tail _ (hjf hx0 z hz).2))⟩⟩:Acs w' u JL.length c_u JL) (by omega)) ?_
   have hmap:JL.map acP=joinS s0.S:=by rw[hjm,hx0.2.2.2]
   conv=>arg 5;whnf
   refine wp_g0 (fun h2=>?_) (fun h2=>?_)
   rotate_left
   ·skip
    conv=>arg 5;whnf
    refine meetc (f:=9) (v:=.bool true) rfl (by kernel_rfl) (fun β ρ w' hM'=>task.live w' (hM.later hM'.below)) ?_
    conv=>arg 5;whnf
    exact wp_back fun β ρ w' hM'=>⟨rfl,hM'.below⟩
   have hts:s0.t=slotsP (joinS s0.S):=by have h6:(!(s0.t==slotsA JL))=false:=h2;rw[← hmap,← slotsA_P];simpa using h6
   conv=>arg 5;whnf
   refine wp_must ⟨by decide,by decide⟩ ?_
   conv=>arg 5;whnf
   refine wp_g0 (fun h2=>?_) (fun h2=>?_)
   rotate_left
   ·skip
    conv=>arg 5;whnf
    refine meetc (f:=9) (v:=.bool true) rfl (by kernel_rfl) (fun β ρ w' hM'=>task.live w' (hM.later hM'.below)) ?_
    conv=>arg 5;whnf
    exact wp_back fun β ρ w' hM'=>⟨rfl,hM'.below⟩
   have hk0:0≤O.k:=by have h3:¬ O.k<0:=of_decide_eq_false h2;omega
   conv=>arg 5;whnf
   refine wp_must ⟨by decide,by decide⟩ ?_
   conv=>arg 5;whnf
   refine wp_g0 (fun h2=>?_) (fun h2=>?_)
   rotate_left
   ·skip
    conv=>arg 5;whnf
    refine meetc (f:=9) (v:=.bool true) rfl (by kernel_rfl) (fun β ρ w' hM'=>task.live w' (hM.later hM'.below)) ?_
    conv=>arg 5;whnf
    exact wp_back fun β ρ w' hM'=>⟨rfl,hM'.below⟩
   have hk1:O.k≤3:=by have h3:¬ (3:Int)<O.k:=of_decide_eq_false h2;omega
   conv=>arg 5;whnf
   refine wp_must ⟨by decide,by decide⟩ ?_
   conv=>arg 5;whnf
   refine wp_g0 (fun h2=>?_) (fun h2=>?_)
   rotate_left
   ·skip
    conv=>arg 5;whnf
    refine meetc (f:=9) (v:=.bool true) rfl (by kernel_rfl) (fun β ρ w' hM'=>task.live w' (hM.later hM'.below)) ?_
    conv=>arg 5;whnf
    exact wp_back fun β ρ w' hM'=>⟨rfl,hM'.below⟩
   have hk2:0≤P.k:=by have h3:¬ P.k<0:=of_decide_eq_false h2;omega
   conv=>arg 5;whnf
   refine wp_must ⟨by decide,by decide⟩ ?_
   conv=>arg 5;whnf
   refine wp_br (fun h2=>?_) (fun h2=>?_)
   ·skip
    conv=>arg 5;whnf
    refine meetc (f:=9) (v:=.bool true) rfl (by kernel_rfl) (fun β ρ w' hM'=>task.live w' (hM.later hM'.below)) ?_
    conv=>arg 5;whnf
    exact wp_back fun β ρ w' hM'=>⟨rfl,hM'.below⟩
   have hk3:P.k≤3:=by have h3:¬ (3:Int)<P.k:=of_decide_eq_false h2;omega
   have hok:task.Two.ok (⟨s0,O,1,P,2⟩:task.Two):=⟨hmy,by show (1:Int)≤1;decide,by show (1:Int)≤2;decide,by have:=(may_iff.1 hmy).2.1;show s0.C.sh=1;omega,fun q hq=>by
    obtain⟨j,hj⟩:=List.mem_iff_getElem?.1 hq
    have:=(List.getElem?_eq_some_iff.1 hj).1
    obtain rfl:j=0:=by have h9:j<s0.l.length:=this;omega
    have h8:s0.l[0]?=some q:=hj
    rw[hz] at h8
    rw[← Option.some.inj h8];exact hz0,sgs_d hx0,hts,⟨hk0,hk1⟩,⟨hk2,hk3⟩,hdO,hdP⟩
   have hn6:x0.S.length≤1000000:=by have:=sgs_len hx0;omega
   have hm0:Mz (((0:Nat):Int) - bn) (⟨s0,O,1,P,2⟩:task.Two) (newT O) (newT P) s0:=.inl (by show ((0:Nat):Int) - bn≤2*(0+0);omega)
   conv=>arg 5;whnf
   refine wp_must ⟨by decide,by decide⟩ ?_
   conv=>arg 5;whnf
   refine wp_must ⟨by decide,by decide⟩ ?_
   conv=>arg 5;whnf
   apply wp_keep
   rotate_left
   ·intro key
    refine wp_both ?_ ?_
    all_goals ((conv=>arg 5;whnf);refine meetc (f:=13) (v:=tkV (newT O) y0) rfl (by kernel_rfl) (fun β ρ w' hM'=>new_any w') ?_)
    conv=>arg 5;whnf
    refine wp_both ?_ ?_
    all_goals ((conv=>arg 5;whnf);refine meetc (f:=13) (v:=tkV (newT P) y0) rfl (by kernel_rfl) (fun β ρ w' hM'=>new_any w') ?_)
    all_goals
     conv=>arg 5;whnf
     refine meet1F (f:=14) (n:=x0.S.length) (v:=fun a1 c1=>sgV s0 ⟨x0.la,x0.lc,a1,c1,x0.S⟩) (xs:=cellsS x0.S) rfl (by kernel_rfl) (fun β ρ w' hM'=>ownS s0 x0 w' hx0.1 hx0.2.1 (hM'.at_ (show rowF (pt x0.sa x0.S.length) (cellsS x0.S)∈(G1 u JL ba bn bs x0 s0) from .tail _ (.tail _ (.tail _ (.head _))))) hn6) (fun v c_v h_v f_v=>?_)
     have hx1:Sgo (⟨x0.la,x0.lc,v,c_v,x0.S⟩:Sn) s0:=⟨hx0.1,h_v,hx0.2.2.1,hx0.2.2.2⟩
     conv=>arg 5;whnf
     refine loop_vac (rowF (pt none 0) (cellsL [])::(y0.fs (newT O)++y0.fs (newT P))) (fun φ hφ=>by simp only[Tn.fs,Pn.fs,List.mem_append,List.mem_cons,List.not_mem_nil,or_false] at hφ;rcases hφ with rfl|((rfl|rfl|rfl)|rfl)|((rfl|rfl|rfl)|rfl) <;> rfl) ?_
     exact loop_rule Sxw.env_ok.keeps sch5 (by kernel_rfl) (Iw.ok (⟨s0,O,1,P,2⟩:task.Two) bn) (fun i=>(⟨[some ([.v (.int .i64 O.k),.v (.int .i64 O.s),.v (.int .i64 O.v),.v (.int .i64 O.g),.v (.string O.d),.v (.int .i64 P.k),.v (.int .i64 P.s),.v (.int .i64 P.v),.v (.int .i64 P.g),.v (.string P.d)],81),some ([.v (.int .i64 s0.C.sh),.v (.int .i64 s0.C.so),.v (.int .i64 s0.C.hd),.v (.int .i64 s0.C.per),.v (.int .i64 s0.C.bp),.v (.int .i64 s0.C.fd),.v (.int .i64 s0.C.wk),.v (.int .i64 s0.C.rm),.v (.slice x0.la s0.l.length x0.lc),.v (.int .i64 s0.t),.v (.int .i64 s0.m),.v (.slice x0.sa x0.S.length x0.sc)],31),some ([.v (.int .i64 i.t0.O.k),.v (.int .i64 i.t0.O.s),.v (.int .i64 i.t0.O.v),.v (.int .i64 i.t0.O.g),.v (.string i.t0.O.d),.v (.int .i64 i.t0.ph),.v (.int .i64 i.t0.s),.v (.bool i.t0.P.ch),.v (.int .i64 i.t0.P.dl),.v (.int .i64 i.t0.P.s),.v (.int .i64 i.t0.P.b),.v (.slice i.y0.x.a i.t0.P.l.length i.y0.x.c),.v (.slice i.y0.x.ea i.t0.P.ev.length i.y0.x.ec),.v (.int .i64 i.t0.P.r.e),.v (.int .i64 i.t0.P.r.t.s),.v (.int .i64 i.t0.P.r.t.n),.v (.int .i64 i.t0.P.r.t.t),.v (.int .i64 i.t0.P.r.t.c),.v (.int .i64 i.t0.P.r.t.g),.v (.string i.t0.P.r.t.d),.v (.slice i.y0.x.ta i.t0.P.r.l.length i.y0.x.tc),.v (.int .i64 i.t0.P.r.n),.v (.int .i64 i.t0.r.e),.v (.int .i64 i.t0.r.t.s),.v (.int .i64 i.t0.r.t.n),.v (.int .i64 i.t0.r.t.t),.v (.int .i64 i.t0.r.t.c),.v (.int .i64 i.t0.r.t.g),.v (.string i.t0.r.t.d),.v (.slice i.y0.a i.t0.r.l.length i.y0.c),.v (.int .i64 i.t0.r.n),.v (.bool i.t0.pt),.v (.int .i64 i.t1.O.k),.v (.int .i64 i.t1.O.s),.v (.int .i64 i.t1.O.v),.v (.int .i64 i.t1.O.g),.v (.string i.t1.O.d),.v (.int .i64 i.t1.ph),.v (.int .i64 i.t1.s),.v (.bool i.t1.P.ch),.v (.int .i64 i.t1.P.dl),.v (.int .i64 i.t1.P.s),.v (.int .i64 i.t1.P.b),.v (.slice i.y1.x.a i.t1.P.l.length i.y1.x.c),.v (.slice i.y1.x.ea i.t1.P.ev.length i.y1.x.ec),.v (.int .i64 i.t1.P.r.e),.v (.int .i64 i.t1.P.r.t.s),.v (.int .i64 i.t1.P.r.t.n),.v (.int .i64 i.t1.P.r.t.t),.v (.int .i64 i.t1.P.r.t.c),.v (.int .i64 i.t1.P.r.t.g),.v (.string i.t1.P.r.t.d),.v (.slice i.y1.x.ta i.t1.P.r.l.length i.y1.x.tc),.v (.int .i64 i.t1.P.r.n),.v (.int .i64 i.t1.r.e),.v (.int .i64 i.t1.r.t.s),.v (.int .i64 i.t1.r.t.n),.v (.int .i64 i.t1.r.t.t),.v (.int .i64 i.t1.r.t.c),.v (.int .i64 i.t1.r.t.g),.v (.string i.t1.r.t.d),.v (.slice i.y1.a i.t1.r.l.length i.y1.c),.v (.int .i64 i.t1.r.n),.v (.bool i.t1.pt)],83),some ([.v (.int .i64 i.s.C.sh),.v (.int .i64 i.s.C.so),.v (.int .i64 i.s.C.hd),.v (.int .i64 i.s.C.per),.v (.int .i64 i.s.C.bp),.v (.int .i64 i.s.C.fd),.v (.int .i64 i.s.C.wk),.v (.int .i64 i.s.C.rm),.v (.slice i.x.la i.s.l.length i.x.lc),.v (.int .i64 i.s.t),.v (.int .i64 i.s.m),.v (.slice i.x.sa i.x.S.length i.x.sc)],58)],[],G3 i.y0 i.y1 i.t0 i.t1 i.x i.s (G1 u JL ba bn bs x0 s0)⟩,[.any,.any,.v (.slice ba bn bc),.p 0 0,.p 1 0,.any,.any,.v (.slice u JL.length c_u),.p 2 0,.p 3 0,.v (.int .i64 i.f),.v (.int .i64 i.k),.any,.any,.any,.any,.any,.any,.any,.any,.any,.any,.any,.any,.any,.any,.any,.any,.any,.any,.any,.any,.any,.any,.any,.any,.any,.any,.any,.any,.any,.any,.any,.any,.any,.any,.any,.any,.any,.any,.any,.any,.any,.any,.any,.any,.any,.any,.any,.any,.any,.any,.any,.any,.any,.any,.any,.any,.any,.any,.any,.any,.any,.any,.any,.any,.any,.any,.any,.any,.any,.any,.any,.any,.any,.any,.any,.any,.any,.any,.any,.any,.any,.any,.any,.any,.any,.any,.any,.any,.any,.any,.any,.any,.any,.any,.any,.any,.any,.any,.any,.any,.any,.any,.any,.any,.any,.any,.any,.any,.any,.any,.any,.any,.any,.any,.any,.any,.any,.any,.any,.any,.any,.any,.any,.any,.any,.any,.any,.any,.any,.any,.any,.any,.any,.any,.any,.any,.any,.any,.any,.any,.any,.any,.any,.any,.any,.any,.any,.any,.any,.any,.any,.any,.any,.any,.any,.any,.any,.any,.any,.any,.any,.any,.any,.any,.any,.any,.any,.any,.any,.any,.any,.any,.any,.any,.any,.any,.any,.any,.any,.any,.any,.any,.any,.any,.any,.any,.any,.any,.any,.any,.any,.any,.any,.any,.any,.any,.any,.any,.any])) (fun i=>bn+30 - i.k) ⟨0,newT O,newT P,y0,y0,s0,(⟨x0.la,x0.lc,v,c_v,x0.S⟩:Sn),-1⟩ ⟨Nat.zero_le _,W2.zero2 hok,.inl rfl,y0_ok O,y0_ok P,hx1,fun _=>hm0,fun h=>absurd h (show ¬ (0:Nat) % 2=1 by decide)⟩ ⟨leT_split 26 185 (by repeat' first|exact trivial|refine⟨.inl rfl,?_⟩|refine⟨.inr rfl,?_⟩) rfl rfl,⟨by repeat' first|exact trivial|refine⟨.inl rfl,?_⟩|refine⟨.inr rfl,?_⟩,by repeat' first|exact trivial|refine⟨.inl rfl,?_⟩|refine⟨.inr rfl,?_⟩,fun φ h=>twoE (K:=(rowF (pt v x0.S.length) (cellsS x0.S)::(G1 u JL ba bn bs x0 s0))) (show φ∈rowF (pt none 0) (cellsL [])::(y0.fs (newT O)++(y0.fs (newT P)++(sgF (⟨x0.la,x0.lc,v,c_v,x0.S⟩:Sn) s0++(G1 u JL ba bn bs x0 s0)))) from h) (fun ψ hψ=>(List.mem_cons.1 hψ).elim (fun e=>e▸.tail _ (.tail _ (.tail _ (.head _)))) fun hψ=>(List.mem_cons.1 hψ).elim (fun e=>e▸.head _) fun hψ=>.tail _ (.tail _ (.tail _ (.tail _ (.tail _ hψ))))) (fun ψ hψ=>.tail _ hψ)⟩,rfl⟩ key
   rintro⟨k,t0,t1,ya,yb,s,x,f⟩ ⟨hk,hW,hf,hy0,hy1,hx,hz0,hz1⟩
   have hk:k≤bn+30:=hk
   have hW:W2 (⟨s0,O,1,P,2⟩:task.Two) t0 t1 s (f==0) (f==1):=hW
   have hf:f = -1∨f=0∨f=1:=hf
   have hy0:ya.ok t0:=hy0
   have hy1:yb.ok t1:=hy1
   have hx:Sgo x s:=hx
   have hz0:k % 2=0→Mz ((k:Int) - bn) (⟨s0,O,1,P,2⟩:task.Two) t0 t1 s:=hz0
   have hz1:k % 2=1→Mz ((k:Int) - bn) (⟨s0,O,1,P,2⟩:task.Two).sw t1 t0 s:=hz1
   have hms:=W2.may hok hW
   have hph:=W2.ph hok hW
   conv=>arg 5;whnf
   refine wp_must ⟨by show -9223372036854775808≤(bn:Int)+30;omega,by show (bn:Int)+30≤9223372036854775807;omega⟩ ?_
   conv=>arg 5;whnf
   refine wp_br (fun h3=>?_) (fun h3=>?_)
   ·have hlt:k<bn+30:=by have h4:(k:Int)<(bn:Int)+30:=of_decide_eq_true h3;omega
    have hDz:Dz s:=sgs_d hx
    have ST0:=fun w hM hyf hxf=>task.step t0 ya 1 s x w hM hy0 hyf hx hxf hms (W2.sz hok hW)
    have n0:=W2.step hok hDz hW
    have g0:=W2.prog hok hW
    have p0:=W2.ph hok n0
    have ST1:=fun w hM hyf hxf=>task.step t1 yb 2 s x w hM hy1 hyf hx hxf hms (W2.sz hok.swap hW.swap)
    have n1:=W2.step hok.swap hDz hW.swap
    have g1:=W2.prog hok.swap hW.swap
    have p1:=W2.ph hok.swap n1
    have e0:=fun h=>mz_next g0 (hz0 h) p0.1.2 hph.1.2 hph.2.2
    have e1:=fun h=>mz_next g1 (hz1 h) p1.1.2 hph.2.2 hph.1.2
    clear g0 g1
    have l0:=W2.leaf n0 hf
    have l1:=W2.leaf1 n1 hf
    replace n0:W2 (⟨s0,O,1,P,2⟩:task.Two) (stepR t0 1 s).t t1 (stepR t0 1 s).s ((f==0)||((stepR t0 1 s).p && !((f==0)||(f==1)))) (f==1):=n0
    replace n1:W2 (⟨s0,O,1,P,2⟩:task.Two).sw (stepR t1 2 s).t t0 (stepR t1 2 s).s ((f==1)||((stepR t1 2 s).p && !((f==1)||(f==0)))) (f==0):=n1
    replace e0:k % 2=0→Mz ((k:Int) - bn+1) (⟨s0,O,1,P,2⟩:task.Two).sw t1 (stepR t0 1 s).t (stepR t0 1 s).s:=e0
    replace e1:k % 2=1→Mz ((k:Int) - bn+1) (⟨s0,O,1,P,2⟩:task.Two) t0 (stepR t1 2 s).t (stepR t1 2 s).s:=e1
    replace p1:(0≤(stepR t1 2 s).t.ph∧(stepR t1 2 s).t.ph≤6)∧0≤t0.ph∧t0.ph≤6:=p1
    replace l0:((stepR t0 1 s).p=true→f<0→W2 (⟨s0,O,1,P,2⟩:task.Two) (stepR t0 1 s).t t1 (stepR t0 1 s).s ((0:Int)==0) ((0:Int)==1))∧(((stepR t0 1 s).p=false∨¬ f<0)→W2 (⟨s0,O,1,P,2⟩:task.Two) (stepR t0 1 s).t t1 (stepR t0 1 s).s (f==0) (f==1)):=l0
    replace l1:((stepR t1 2 s).p=true→f<0→W2 (⟨s0,O,1,P,2⟩:task.Two) t0 (stepR t1 2 s).t (stepR t1 2 s).s ((1:Int)==0) ((1:Int)==1))∧(((stepR t1 2 s).p=false∨¬ f<0)→W2 (⟨s0,O,1,P,2⟩:task.Two) t0 (stepR t1 2 s).t (stepR t1 2 s).s (f==0) (f==1)):=l1
    generalize stepR t0 1 s=R0 at *
    generalize stepR t1 2 s=R1 at *
    obtain⟨ta,sa,va,pa⟩:=R0
    obtain⟨tb,sb,vb,pb⟩:=R1
    have p1:(0≤tb.ph∧tb.ph≤6)∧0≤t0.ph∧t0.ph≤6:=p1
    by_cases hp:k % 2=0
    ·skip
     conv=>arg 5;whnf
     refine wp_prim (.int .i64 0) (fun w=>rem2 _ _ k 0 (by omega) w) ?_
     conv=>arg 5;whnf
     refine wp_g1 (fun h5=>?_) (fun h5=>?_)
     have hkb:k<bn:=by have h6:(k:Int)<(bn:Int):=of_decide_eq_true h5;omega
     obtain⟨tt,htt⟩:∃z,bs[k]?=some z:=⟨_,List.getElem?_eq_getElem (by omega)⟩
     conv=>arg 5;whnf
     refine wp_must ⟨by omega,by show (k:Int)<(bn:Int);omega,hB1.some hkb⟩ ?_
     conv=>arg 5;whnf
     refine readF (sz:=1) (k:=k) (f:=0) (.bool tt) rfl (show rowF (pt ba bn) (bs.map Value.bool)∈(G3 ya yb t0 t1 x s (G1 u JL ba bn bs x0 s0)) from .tail _ (List.mem_append_right _ (List.mem_append_right _ (List.mem_append_right _ (.tail _ (.head _)))))) hkb (hB1.some hkb) (by rw[show k*1+0=k by omega,List.getElem?_map,htt];rfl) rfl ?_
     conv=>arg 5;whnf
     refine wp_br (fun h6=>?_) (fun h6=>?_)
     ·skip
      as_aux_lemma=>
       conv=>arg 5;whnf
       refine wp_must ⟨by decide,by decide⟩ ?_
       conv=>arg 5;whnf
       refine wp_must ⟨by decide,by decide⟩ ?_
       conv=>arg 5;whnf
       refine wp_both ?_ (wp_both ?_ ?_)
       all_goals ((conv=>arg 5;whnf);try refine wp_both ?_ ?_)
       all_goals ((conv=>arg 5;whnf);refine meetSt (f:=16) ⟨tb,sb,vb,pb⟩ [] (by simp) rfl (by kernel_rfl) (fun β ρ w' hM'=>ST1 w' (hM.later hM'.below) (fun φ hφ g hg=>(hM'.fact φ (show φ∈(G3 ya yb t0 t1 x s (G1 u JL ba bn bs x0 s0)) from .tail _ (List.mem_append_right _ (List.mem_append_left _ hφ))) g hg).2) (fun φ hφ g hg=>(hM'.fact φ (show φ∈(G3 ya yb t0 t1 x s (G1 u JL ba bn bs x0 s0)) from .tail _ (List.mem_append_right _ (List.mem_append_right _ (List.mem_append_left _ hφ)))) g hg).2)) (fun a ha hnew=>?_);(conv=>arg 5;whnf);try refine wp_both ?_ ?_)
       all_goals
        obtain⟨y',x',ea,ec⟩:=a
        obtain⟨hy',hx',he'⟩:=ha
        have hy':y'.ok tb:=hy'
        have hx':Sgo x' sb:=hx'
        conv=>arg 5;whnf
        refine wp_g1 (fun h8=>?_) (fun h8=>?_)
        conv=>arg 5;whnf
        refine wp_br (fun h9=>?_) (fun h9=>?_)
        ·have hpp:pb=true:=h8
         have hf0:f<0:=of_decide_eq_true h9
         conv=>arg 5;whnf
         refine wp_must ⟨by decide,by decide⟩ ?_
         conv=>arg 5;whnf
         refine wp_must ⟨by show -9223372036854775808≤(k:Int)+1;omega,by show (k:Int)+1≤9223372036854775807;omega⟩ ?_
         conv=>arg 5;whnf
         refine wp_end ⟨⟨k+1,t0,tb,ya,y',sb,x',1⟩,⟨by show k+1≤bn+30;omega,l1.1 hpp hf0,.inr (.inr rfl),hy0,hy',hx',fun h=>absurd h (by show ¬ (k+1) % 2=0;omega),fun _=>.inl (by show ((k+1:Nat):Int) - bn≤2*(tb.ph+t0.ph);omega)⟩,⟨leT_split 26 185 (by repeat' first|exact trivial|refine⟨.inl rfl,?_⟩|refine⟨.inr rfl,?_⟩) rfl rfl,⟨by repeat' first|exact trivial|refine⟨.inl rfl,?_⟩|refine⟨.inr rfl,?_⟩,by repeat' first|exact trivial|refine⟨.inl rfl,?_⟩|refine⟨.inr rfl,?_⟩,fun φ h=>twoB (show φ∈rowF (pt none 0) (cellsL [])::(ya.fs t0++(y'.fs tb++(sgF x' sb++(G1 u JL ba bn bs x0 s0)))) from h)⟩,rfl⟩,by show bn+30 - (k+1)<bn+30 - k;omega⟩
        all_goals have hlf:pb=false∨¬ f<0:=(by first|exact .inr (of_decide_eq_false h9)|exact .inl h8)
        all_goals
         conv=>arg 5;whnf
         refine wp_must ⟨by decide,by decide⟩ ?_
         conv=>arg 5;whnf
         refine wp_must ⟨by show -9223372036854775808≤(k:Int)+1;omega,by show (k:Int)+1≤9223372036854775807;omega⟩ ?_
         conv=>arg 5;whnf
         refine wp_end ⟨⟨k+1,t0,tb,ya,y',sb,x',f⟩,⟨by show k+1≤bn+30;omega,l1.2 hlf,hf,hy0,hy',hx',fun h=>absurd h (by show ¬ (k+1) % 2=0;omega),fun _=>.inl (by show ((k+1:Nat):Int) - bn≤2*(tb.ph+t0.ph);omega)⟩,⟨leT_split 26 185 (by repeat' first|exact trivial|refine⟨.inl rfl,?_⟩|refine⟨.inr rfl,?_⟩) rfl rfl,⟨by repeat' first|exact trivial|refine⟨.inl rfl,?_⟩|refine⟨.inr rfl,?_⟩,by repeat' first|exact trivial|refine⟨.inl rfl,?_⟩|refine⟨.inr rfl,?_⟩,fun φ h=>twoB (show φ∈rowF (pt none 0) (cellsL [])::(ya.fs t0++(y'.fs tb++(sgF x' sb++(G1 u JL ba bn bs x0 s0)))) from h)⟩,rfl⟩,by show bn+30 - (k+1)<bn+30 - k;omega⟩
     all_goals
      as_aux_lemma=>
       conv=>arg 5;whnf
       refine wp_must ⟨by decide,by decide⟩ ?_
       conv=>arg 5;whnf
       refine wp_must ⟨by decide,by decide⟩ ?_
       conv=>arg 5;whnf
       refine wp_both ?_ (wp_both ?_ ?_)
       all_goals ((conv=>arg 5;whnf);try refine wp_both ?_ ?_)
       all_goals ((conv=>arg 5;whnf);refine meetSt (f:=16) ⟨ta,sa,va,pa⟩ [] (by simp) rfl (by kernel_rfl) (fun β ρ w' hM'=>ST0 w' (hM.later hM'.below) (fun φ hφ g hg=>(hM'.fact φ (show φ∈(G3 ya yb t0 t1 x s (G1 u JL ba bn bs x0 s0)) from .tail _ (List.mem_append_left _ hφ)) g hg).2) (fun φ hφ g hg=>(hM'.fact φ (show φ∈(G3 ya yb t0 t1 x s (G1 u JL ba bn bs x0 s0)) from .tail _ (List.mem_append_right _ (List.mem_append_right _ (List.mem_append_left _ hφ)))) g hg).2)) (fun a ha hnew=>?_);(conv=>arg 5;whnf);try refine wp_both ?_ ?_)
       all_goals
        obtain⟨y',x',ea,ec⟩:=a
        obtain⟨hy',hx',he'⟩:=ha
        have hy':y'.ok ta:=hy'
        have hx':Sgo x' sa:=hx'
        conv=>arg 5;whnf
        refine wp_g1 (fun h8=>?_) (fun h8=>?_)
        conv=>arg 5;whnf
        refine wp_br (fun h9=>?_) (fun h9=>?_)
        ·have hpp:pa=true:=h8
         have hf0:f<0:=of_decide_eq_true h9
         conv=>arg 5;whnf
         refine wp_must ⟨by decide,by decide⟩ ?_
         conv=>arg 5;whnf
         refine wp_must ⟨by show -9223372036854775808≤(k:Int)+1;omega,by show (k:Int)+1≤9223372036854775807;omega⟩ ?_
         conv=>arg 5;whnf
         refine wp_end ⟨⟨k+1,ta,t1,y',yb,sa,x',0⟩,⟨by show k+1≤bn+30;omega,l0.1 hpp hf0,.inr (.inl rfl),hy',hy1,hx',fun h=>absurd h (by show ¬ (k+1) % 2=0;omega),fun _=>(show Mz (((k+1:Nat):Int) - bn) _ t1 ta sa by rw[show ((k+1:Nat):Int) - bn=(k:Int) - bn+1 by omega];exact e0 hp)⟩,⟨leT_split 26 185 (by repeat' first|exact trivial|refine⟨.inl rfl,?_⟩|refine⟨.inr rfl,?_⟩) rfl rfl,⟨by repeat' first|exact trivial|refine⟨.inl rfl,?_⟩|refine⟨.inr rfl,?_⟩,by repeat' first|exact trivial|refine⟨.inl rfl,?_⟩|refine⟨.inr rfl,?_⟩,fun φ h=>twoA (show φ∈rowF (pt none 0) (cellsL [])::(y'.fs ta++(yb.fs t1++(sgF x' sa++(G1 u JL ba bn bs x0 s0)))) from h)⟩,rfl⟩,by show bn+30 - (k+1)<bn+30 - k;omega⟩
        all_goals have hlf:pa=false∨¬ f<0:=(by first|exact .inr (of_decide_eq_false h9)|exact .inl h8)
        all_goals
         conv=>arg 5;whnf
         refine wp_must ⟨by decide,by decide⟩ ?_
         conv=>arg 5;whnf
         refine wp_must ⟨by show -9223372036854775808≤(k:Int)+1;omega,by show (k:Int)+1≤9223372036854775807;omega⟩ ?_
         conv=>arg 5;whnf
         refine wp_end ⟨⟨k+1,ta,t1,y',yb,sa,x',f⟩,⟨by show k+1≤bn+30;omega,l0.2 hlf,hf,hy',hy1,hx',fun h=>absurd h (by show ¬ (k+1) % 2=0;omega),fun _=>(show Mz (((k+1:Nat):Int) - bn) _ t1 ta sa by rw[show ((k+1:Nat):Int) - bn=(k:Int) - bn+1 by omega];exact e0 hp)⟩,⟨leT_split 26 185 (by repeat' first|exact trivial|refine⟨.inl rfl,?_⟩|refine⟨.inr rfl,?_⟩) rfl rfl,⟨by repeat' first|exact trivial|refine⟨.inl rfl,?_⟩|refine⟨.inr rfl,?_⟩,by repeat' first|exact trivial|refine⟨.inl rfl,?_⟩|refine⟨.inr rfl,?_⟩,fun φ h=>twoA (show φ∈rowF (pt none 0) (cellsL [])::(y'.fs ta++(yb.fs t1++(sgF x' sa++(G1 u JL ba bn bs x0 s0)))) from h)⟩,rfl⟩,by show bn+30 - (k+1)<bn+30 - k;omega⟩
    ·have hp:k % 2=1:=by omega
     conv=>arg 5;whnf
     refine wp_prim (.int .i64 1) (fun w=>rem2 _ _ k 1 (by omega) w) ?_
     conv=>arg 5;whnf
     refine wp_g1 (fun h5=>?_) (fun h5=>?_)
     have hkb:k<bn:=by have h6:(k:Int)<(bn:Int):=of_decide_eq_true h5;omega
     obtain⟨tt,htt⟩:∃z,bs[k]?=some z:=⟨_,List.getElem?_eq_getElem (by omega)⟩
     conv=>arg 5;whnf
     refine wp_must ⟨by omega,by show (k:Int)<(bn:Int);omega,hB1.some hkb⟩ ?_
     conv=>arg 5;whnf
     refine readF (sz:=1) (k:=k) (f:=0) (.bool tt) rfl (show rowF (pt ba bn) (bs.map Value.bool)∈(G3 ya yb t0 t1 x s (G1 u JL ba bn bs x0 s0)) from .tail _ (List.mem_append_right _ (List.mem_append_right _ (List.mem_append_right _ (.tail _ (.head _)))))) hkb (hB1.some hkb) (by rw[show k*1+0=k by omega,List.getElem?_map,htt];rfl) rfl ?_
     conv=>arg 5;whnf
     refine wp_br (fun h6=>?_) (fun h6=>?_)
     all_goals
      as_aux_lemma=>
       conv=>arg 5;whnf
       refine wp_must ⟨by decide,by decide⟩ ?_
       conv=>arg 5;whnf
       refine wp_must ⟨by decide,by decide⟩ ?_
       conv=>arg 5;whnf
       refine wp_both ?_ (wp_both ?_ ?_)
       all_goals ((conv=>arg 5;whnf);try refine wp_both ?_ ?_)
       all_goals ((conv=>arg 5;whnf);refine meetSt (f:=16) ⟨tb,sb,vb,pb⟩ [] (by simp) rfl (by kernel_rfl) (fun β ρ w' hM'=>ST1 w' (hM.later hM'.below) (fun φ hφ g hg=>(hM'.fact φ (show φ∈(G3 ya yb t0 t1 x s (G1 u JL ba bn bs x0 s0)) from .tail _ (List.mem_append_right _ (List.mem_append_left _ hφ))) g hg).2) (fun φ hφ g hg=>(hM'.fact φ (show φ∈(G3 ya yb t0 t1 x s (G1 u JL ba bn bs x0 s0)) from .tail _ (List.mem_append_right _ (List.mem_append_right _ (List.mem_append_left _ hφ)))) g hg).2)) (fun a ha hnew=>?_);(conv=>arg 5;whnf);try refine wp_both ?_ ?_)
       all_goals
        obtain⟨y',x',ea,ec⟩:=a
        obtain⟨hy',hx',he'⟩:=ha
        have hy':y'.ok tb:=hy'
        have hx':Sgo x' sb:=hx'
        conv=>arg 5;whnf
        refine wp_g1 (fun h8=>?_) (fun h8=>?_)
        conv=>arg 5;whnf
        refine wp_br (fun h9=>?_) (fun h9=>?_)
        ·have hpp:pb=true:=h8
         have hf0:f<0:=of_decide_eq_true h9
         conv=>arg 5;whnf
         refine wp_must ⟨by decide,by decide⟩ ?_
         conv=>arg 5;whnf
         refine wp_must ⟨by show -9223372036854775808≤(k:Int)+1;omega,by show (k:Int)+1≤9223372036854775807;omega⟩ ?_
         conv=>arg 5;whnf
         refine wp_end ⟨⟨k+1,t0,tb,ya,y',sb,x',1⟩,⟨by show k+1≤bn+30;omega,l1.1 hpp hf0,.inr (.inr rfl),hy0,hy',hx',fun _=>(show Mz (((k+1:Nat):Int) - bn) _ t0 tb sb by rw[show ((k+1:Nat):Int) - bn=(k:Int) - bn+1 by omega];exact e1 hp),fun h=>absurd h (by show ¬ (k+1) % 2=1;omega)⟩,⟨leT_split 26 185 (by repeat' first|exact trivial|refine⟨.inl rfl,?_⟩|refine⟨.inr rfl,?_⟩) rfl rfl,⟨by repeat' first|exact trivial|refine⟨.inl rfl,?_⟩|refine⟨.inr rfl,?_⟩,by repeat' first|exact trivial|refine⟨.inl rfl,?_⟩|refine⟨.inr rfl,?_⟩,fun φ h=>twoB (show φ∈rowF (pt none 0) (cellsL [])::(ya.fs t0++(y'.fs tb++(sgF x' sb++(G1 u JL ba bn bs x0 s0)))) from h)⟩,rfl⟩,by show bn+30 - (k+1)<bn+30 - k;omega⟩
        all_goals have hlf:pb=false∨¬ f<0:=(by first|exact .inr (of_decide_eq_false h9)|exact .inl h8)
        all_goals
         conv=>arg 5;whnf
         refine wp_must ⟨by decide,by decide⟩ ?_
         conv=>arg 5;whnf
         refine wp_must ⟨by show -9223372036854775808≤(k:Int)+1;omega,by show (k:Int)+1≤9223372036854775807;omega⟩ ?_
         conv=>arg 5;whnf
         refine wp_end ⟨⟨k+1,t0,tb,ya,y',sb,x',f⟩,⟨by show k+1≤bn+30;omega,l1.2 hlf,hf,hy0,hy',hx',fun _=>(show Mz (((k+1:Nat):Int) - bn) _ t0 tb sb by rw[show ((k+1:Nat):Int) - bn=(k:Int) - bn+1 by omega];exact e1 hp),fun h=>absurd h (by show ¬ (k+1) % 2=1;omega)⟩,⟨leT_split 26 185 (by repeat' first|exact trivial|refine⟨.inl rfl,?_⟩|refine⟨.inr rfl,?_⟩) rfl rfl,⟨by repeat' first|exact trivial|refine⟨.inl rfl,?_⟩|refine⟨.inr rfl,?_⟩,by repeat' first|exact trivial|refine⟨.inl rfl,?_⟩|refine⟨.inr rfl,?_⟩,fun φ h=>twoB (show φ∈rowF (pt none 0) (cellsL [])::(ya.fs t0++(y'.fs tb++(sgF x' sb++(G1 u JL ba bn bs x0 s0)))) from h)⟩,rfl⟩,by show bn+30 - (k+1)<bn+30 - k;omega⟩
   ·have hkn:k=bn+30:=by have h4:¬ (k:Int)<(bn:Int)+30:=of_decide_eq_false h3;omega
    have h66:t0.ph=6∧t1.ph=6:=by
     rcases Nat.mod_two_eq_zero_or_one k with h|h
     ·rcases hz0 h with z|⟨z,_⟩|z
      ·omega
      ·omega
      ·exact z
     ·rcases hz1 h with z|⟨z,_⟩|z
      ·omega
      ·omega
      ·exact⟨z.2,z.1⟩
    have hlast:=W2.last hok hW h66.1 h66.2
    clear hz0 hz1
    have hj9:JL.length≤100000:=by rw[hjl];exact all256 hmy hx0
    have hxl:=sgs_len hx
    have hS8:=(may_small hms).2
    have hall':=all256 hms hx
    have hjl2:=srt_len (fun z:Ac=>z.s) (allS x.S)
    have hjf2:=join_facts hx
    have hmap':(srt (fun z:Ac=>z.s) (allS x.S)).map acP=joinS s.S:=by rw[join_map,hx.2.2.2]
    have RJ2:=fun g c_g w hg hF=>rjoinW x.S g x.S.length c_g w hg rfl (fun q hq=>⟨(hx.2.2.1 q hq).1,(hx.2.2.1 q hq).2.1⟩) hF (by omega)
    generalize srt (fun z:Ac=>z.s) (allS x.S)=JY at *
    have hf0:0≤f:=by
     rcases hf with e|e|e
     ·subst e;exact absurd hlast.2.2 (by decide)
     ·omega
     ·omega
    conv=>arg 5;whnf
    refine wp_g0 (fun _=>?_) (fun h=>absurd (of_decide_eq_true h) (show ¬ f<0 by omega))
    conv=>arg 5;whnf
    refine wp_must ⟨by decide,by decide⟩ ?_
    conv=>arg 5;whnf
    refine wp_g0 (fun _=>?_) (fun h=>absurd h (by show ¬ (!(t0.ph==6))=true;rw[h66.1];simp))
    conv=>arg 5;whnf
    refine wp_must ⟨by decide,by decide⟩ ?_
    conv=>arg 5;whnf
    refine wp_br (fun h=>absurd h (by show ¬ (!(t1.ph==6))=true;rw[h66.2];simp)) (fun _=>?_)
    rcases hf with e|e|e
    ·subst e;exact absurd hlast.2.2 (by decide)
    ·subst e
     as_aux_lemma=>
      obtain⟨s1,e1,e2,hm1,hC1,d1,d2⟩:=hlast.1 (by decide)
      have d1:doP s0.C (joinS s0.S) O=(joinS s1.S,t0.r,e1):=d1
      have d2:doP s0.C (joinS s1.S) P=(joinS s.S,t1.r,e2):=d2
      have DO1:=fun w hM hA=>do_any s0.C O JL u JL.length c_u w hM hA hj9 hdO ⟨hO.2.2.2.1.1,by have:=hO.2.2.2.1.2;omega⟩ (by rw[hmap];exact tpl_may hmy O.g)
      rw[hmap,d1] at DO1
      have DO2:=fun {L:List Ac} (hL:L.map acP=joinS s1.S) a c w hM hA=>do_any s0.C P L a L.length c w hM hA (by have h1:=congrArg List.length hL;rw[List.length_map] at h1;have h2:=join_len hm1;omega) hdP ⟨hP.2.2.2.1.1,by have:=hP.2.2.2.1.2;omega⟩ (by rw[hL];exact tpl_may hm1 P.g)
      conv=>arg 5;whnf
      refine wp_must ⟨by show (0:Int)≤0;decide,by show (0:Int)<2;decide⟩ ?_
      conv=>arg 5;whnf
      refine wp_both ?_ ?_
      all_goals
       conv=>arg 5;whnf
       refine meetAn (f:=12) (joinS s1.S,t0.r,e1) [] (by simp) rfl (by kernel_rfl) (fun β ρ w' hM'=>DO1 w' (hM.later hM'.below) (⟨h_u,rfl,hM'.at_ (show rowF (pt u JL.length) (cellsA JL)∈(G3 ya yb t0 t1 x s (G1 u JL ba bn bs x0 s0)) from .tail _ (List.mem_append_right _ (List.mem_append_right _ (List.mem_append_right _ (.head _))))),fun z hz=>⟨(hjf hx0 z hz).1,hM'.at_ (a:=pt z.a z.n) (xs:=cellsL z.l) (show acF z∈(G3 ya yb t0 t1 x s (G1 u JL ba bn bs x0 s0)) from .tail _ (List.mem_append_right _ (List.mem_append_right _ (List.mem_append_right _ (.tail _ (.tail _ (hjf hx0 z hz).2))))))⟩⟩:Acs w' u JL.length c_u JL)) (fun z hz _=>?_)
       obtain⟨za,zc,zL,ta,tc,ea,ec⟩:=z
       obtain⟨z1,z2,z3,z4,z5⟩:=hz
       have z1:zL.map acP=joinS s1.S:=z1
       have z3:Sl za zL.length zc:=z3
       have z4:Sl ta t0.r.l.length tc:=z4
       have DO2:=fun w hM hA=>DO2 z1 za zc w hM hA
       rw[z1,d2] at DO2
       conv=>arg 5;whnf
       refine wp_must ⟨by show (-9223372036854775808:Int)≤1 - 0;decide,by show (1:Int) - 0≤9223372036854775807;decide⟩ ?_
       conv=>arg 5;whnf
       refine wp_must ⟨by show (0:Int)≤1 - 0;decide,by show (1:Int) - 0<2;decide⟩ ?_
       conv=>arg 5;whnf
       refine wp_both ?_ ?_
       all_goals
        conv=>arg 5;whnf
        refine meetAn (f:=12) (joinS s.S,t1.r,e2) [] (by simp) rfl (by kernel_rfl) (fun β ρ w' hM'=>DO2 w' (hM.later hM'.below) (acs_of hM' z3 rfl z2 fun φ hφ=>(show φ∈((⟨za,zc,zL,ta,tc,ea,ec⟩:An).fs (joinS s1.S,t0.r,e1)++(G3 ya yb t0 t1 x s (G1 u JL ba bn bs x0 s0))) from List.mem_append_left _ (.tail _ (.tail _ hφ))))) (fun qq hq _=>?_)
        obtain⟨qa,qc,qL,ra,rc,va,vc⟩:=qq
        obtain⟨q1,q2,q3,q4,q5⟩:=hq
        have q1:qL.map acP=joinS s.S:=q1
        have q3:Sl qa qL.length qc:=q3
        have q4:Sl ra t1.r.l.length rc:=q4
        conv=>arg 5;whnf
        refine wp_must ⟨by show (0:Int)≤0;decide,by show (0:Int)<2;decide⟩ ?_
        conv=>arg 5;whnf
        refine meetc (f:=18) (v:=.bool true) rfl (by kernel_rfl) (fun β ρ w' hM'=>rsameR t0.r ya.a ya.c ta tc w' hy0.2 (hM'.at_ (show rowF (pt ya.a t0.r.l.length) (cellsL t0.r.l)∈((⟨qa,qc,qL,ra,rc,va,vc⟩:An).fs (joinS s.S,t1.r,e2)++((⟨za,zc,zL,ta,tc,ea,ec⟩:An).fs (joinS s1.S,t0.r,e1)++(G3 ya yb t0 t1 x s (G1 u JL ba bn bs x0 s0)))) from List.mem_append_right _ (List.mem_append_right _ (.tail _ (List.mem_append_left _ (List.mem_append_right _ (.head _))))))) z4 (hM'.at_ (show rowF (pt ta t0.r.l.length) (cellsL t0.r.l)∈((⟨qa,qc,qL,ra,rc,va,vc⟩:An).fs (joinS s.S,t1.r,e2)++((⟨za,zc,zL,ta,tc,ea,ec⟩:An).fs (joinS s1.S,t0.r,e1)++(G3 ya yb t0 t1 x s (G1 u JL ba bn bs x0 s0)))) from List.mem_append_right _ (List.mem_append_left _ (.head _))))) ?_
        conv=>arg 5;whnf
        refine wp_must ⟨by show (-9223372036854775808:Int)≤1 - 0;decide,by show (1:Int) - 0≤9223372036854775807;decide⟩ ?_
        conv=>arg 5;whnf
        refine wp_must ⟨by show (0:Int)≤1 - 0;decide,by show (1:Int) - 0<2;decide⟩ ?_
        conv=>arg 5;whnf
        refine meetc (f:=18) (v:=.bool true) rfl (by kernel_rfl) (fun β ρ w' hM'=>rsameR t1.r yb.a yb.c ra rc w' hy1.2 (hM'.at_ (show rowF (pt yb.a t1.r.l.length) (cellsL t1.r.l)∈((⟨qa,qc,qL,ra,rc,va,vc⟩:An).fs (joinS s.S,t1.r,e2)++((⟨za,zc,zL,ta,tc,ea,ec⟩:An).fs (joinS s1.S,t0.r,e1)++(G3 ya yb t0 t1 x s (G1 u JL ba bn bs x0 s0)))) from List.mem_append_right _ (List.mem_append_right _ (.tail _ (List.mem_append_right _ (List.mem_append_left _ (List.mem_append_right _ (.head _)))))))) q4 (hM'.at_ (show rowF (pt ra t1.r.l.length) (cellsL t1.r.l)∈((⟨qa,qc,qL,ra,rc,va,vc⟩:An).fs (joinS s.S,t1.r,e2)++((⟨za,zc,zL,ta,tc,ea,ec⟩:An).fs (joinS s1.S,t0.r,e1)++(G3 ya yb t0 t1 x s (G1 u JL ba bn bs x0 s0)))) from List.mem_append_left _ (.head _)))) ?_
        conv=>arg 5;whnf
        refine meet1F (f:=17) (n:=x.S.length) (v:=fun a1 c1=>sgV s ⟨x.la,x.lc,a1,c1,x.S⟩) (xs:=cellsS x.S) rfl (by kernel_rfl) (fun β ρ w' hM'=>toldS s x w' hx.1 hx.2.1 (hM'.at_ (show rowF (pt x.sa x.S.length) (cellsS x.S)∈((⟨qa,qc,qL,ra,rc,va,vc⟩:An).fs (joinS s.S,t1.r,e2)++((⟨za,zc,zL,ta,tc,ea,ec⟩:An).fs (joinS s1.S,t0.r,e1)++(G3 ya yb t0 t1 x s (G1 u JL ba bn bs x0 s0)))) from List.mem_append_right _ (List.mem_append_right _ (.tail _ (List.mem_append_right _ (List.mem_append_right _ (List.mem_append_left _ (.tail _ (.head _))))))))) (by omega)) (fun g c_g h_g f_g=>?_)
        conv=>arg 5;whnf
        refine wp_prim (.slice g x.S.length c_g) (fun w=>by kernel_rfl) ?_
        conv=>arg 5;whnf
        refine meet1F (f:=10) (n:=JY.length) (v:=fun a1 c1=>.slice a1 JY.length c1) (xs:=cellsA JY) rfl (by kernel_rfl) (fun β ρ w' hM'=>RJ2 g c_g w' h_g (fun φ hφ g' hg'=>(hM'.fact φ (show φ∈(rowF (pt g x.S.length) (cellsS x.S)::((⟨qa,qc,qL,ra,rc,va,vc⟩:An).fs (joinS s.S,t1.r,e2)++((⟨za,zc,zL,ta,tc,ea,ec⟩:An).fs (joinS s1.S,t0.r,e1)++(G3 ya yb t0 t1 x s (G1 u JL ba bn bs x0 s0))))) from (List.mem_cons.1 hφ).elim (fun e=>e▸.head _) fun hφ=>.tail _ (List.mem_append_right _ (List.mem_append_right _ (.tail _ (List.mem_append_right _ (List.mem_append_right _ (List.mem_append_left _ (.tail _ (.tail _ hφ))))))))) g' hg').2)) (fun j c_j h_j f_j=>?_)
        conv=>arg 5;whnf
        refine meetc (f:=20) (v:=.bool true) rfl (by kernel_rfl) (fun β ρ w' hM'=>raccounts JY qL (hmap'.trans q1.symm) j JY.length c_j qa qL.length qc w' (⟨h_j,rfl,hM'.at_ (show rowF (pt j JY.length) (cellsA JY)∈(rowF (pt j JY.length) (cellsA JY)::(rowF (pt g x.S.length) (cellsS x.S)::((⟨qa,qc,qL,ra,rc,va,vc⟩:An).fs (joinS s.S,t1.r,e2)++((⟨za,zc,zL,ta,tc,ea,ec⟩:An).fs (joinS s1.S,t0.r,e1)++(G3 ya yb t0 t1 x s (G1 u JL ba bn bs x0 s0)))))) from .head _),fun z hz=>⟨(hjf2 z hz).1,hM'.at_ (a:=pt z.a z.n) (xs:=cellsL z.l) (show acF z∈(rowF (pt j JY.length) (cellsA JY)::(rowF (pt g x.S.length) (cellsS x.S)::((⟨qa,qc,qL,ra,rc,va,vc⟩:An).fs (joinS s.S,t1.r,e2)++((⟨za,zc,zL,ta,tc,ea,ec⟩:An).fs (joinS s1.S,t0.r,e1)++(G3 ya yb t0 t1 x s (G1 u JL ba bn bs x0 s0)))))) from .tail _ (.tail _ (List.mem_append_right _ (List.mem_append_right _ (.tail _ (List.mem_append_right _ (List.mem_append_right _ (List.mem_append_left _ ((hjf2 z hz).2)))))))))⟩⟩:Acs w' j JY.length c_j JY) (acs_of hM' q3 rfl q2 fun φ hφ=>(show φ∈(rowF (pt j JY.length) (cellsA JY)::(rowF (pt g x.S.length) (cellsS x.S)::((⟨qa,qc,qL,ra,rc,va,vc⟩:An).fs (joinS s.S,t1.r,e2)++((⟨za,zc,zL,ta,tc,ea,ec⟩:An).fs (joinS s1.S,t0.r,e1)++(G3 ya yb t0 t1 x s (G1 u JL ba bn bs x0 s0)))))) from .tail _ (.tail _ (List.mem_append_left _ (.tail _ (.tail _ hφ))))))) ?_
        conv=>arg 5;whnf
        refine meetc (f:=9) (v:=.bool true) rfl (by kernel_rfl) (fun β ρ w' hM'=>task.live w' (hM.later hM'.below)) ?_
        conv=>arg 5;whnf
        exact wp_back fun β ρ w' hM'=>⟨rfl,hM'.below⟩
    ·subst e
     as_aux_lemma=>
      obtain⟨s1,e1,e2,hm1,hC1,d1,d2⟩:=hlast.2.1 (by decide)
      have d1:doP s0.C (joinS s0.S) P=(joinS s1.S,t1.r,e1):=d1
      have d2:doP s0.C (joinS s1.S) O=(joinS s.S,t0.r,e2):=d2
      have DO1:=fun w hM hA=>do_any s0.C P JL u JL.length c_u w hM hA hj9 hdP ⟨hP.2.2.2.1.1,by have:=hP.2.2.2.1.2;omega⟩ (by rw[hmap];exact tpl_may hmy P.g)
      rw[hmap,d1] at DO1
      have DO2:=fun {L:List Ac} (hL:L.map acP=joinS s1.S) a c w hM hA=>do_any s0.C O L a L.length c w hM hA (by have h1:=congrArg List.length hL;rw[List.length_map] at h1;have h2:=join_len hm1;omega) hdO ⟨hO.2.2.2.1.1,by have:=hO.2.2.2.1.2;omega⟩ (by rw[hL];exact tpl_may hm1 O.g)
      conv=>arg 5;whnf
      refine wp_must ⟨by show (0:Int)≤1;decide,by show (1:Int)<2;decide⟩ ?_
      conv=>arg 5;whnf
      refine wp_both ?_ ?_
      all_goals
       conv=>arg 5;whnf
       refine meetAn (f:=12) (joinS s1.S,t1.r,e1) [] (by simp) rfl (by kernel_rfl) (fun β ρ w' hM'=>DO1 w' (hM.later hM'.below) (⟨h_u,rfl,hM'.at_ (show rowF (pt u JL.length) (cellsA JL)∈(G3 ya yb t0 t1 x s (G1 u JL ba bn bs x0 s0)) from .tail _ (List.mem_append_right _ (List.mem_append_right _ (List.mem_append_right _ (.head _))))),fun z hz=>⟨(hjf hx0 z hz).1,hM'.at_ (a:=pt z.a z.n) (xs:=cellsL z.l) (show acF z∈(G3 ya yb t0 t1 x s (G1 u JL ba bn bs x0 s0)) from .tail _ (List.mem_append_right _ (List.mem_append_right _ (List.mem_append_right _ (.tail _ (.tail _ (hjf hx0 z hz).2))))))⟩⟩:Acs w' u JL.length c_u JL)) (fun z hz _=>?_)
       obtain⟨za,zc,zL,ta,tc,ea,ec⟩:=z
       obtain⟨z1,z2,z3,z4,z5⟩:=hz
       have z1:zL.map acP=joinS s1.S:=z1
       have z3:Sl za zL.length zc:=z3
       have z4:Sl ta t1.r.l.length tc:=z4
       have DO2:=fun w hM hA=>DO2 z1 za zc w hM hA
       rw[z1,d2] at DO2
       conv=>arg 5;whnf
       refine wp_must ⟨by show (-9223372036854775808:Int)≤1 - 1;decide,by show (1:Int) - 1≤9223372036854775807;decide⟩ ?_
       conv=>arg 5;whnf
       refine wp_must ⟨by show (0:Int)≤1 - 1;decide,by show (1:Int) - 1<2;decide⟩ ?_
       conv=>arg 5;whnf
       refine wp_both ?_ ?_
       all_goals
        conv=>arg 5;whnf
        refine meetAn (f:=12) (joinS s.S,t0.r,e2) [] (by simp) rfl (by kernel_rfl) (fun β ρ w' hM'=>DO2 w' (hM.later hM'.below) (acs_of hM' z3 rfl z2 fun φ hφ=>(show φ∈((⟨za,zc,zL,ta,tc,ea,ec⟩:An).fs (joinS s1.S,t1.r,e1)++(G3 ya yb t0 t1 x s (G1 u JL ba bn bs x0 s0))) from List.mem_append_left _ (.tail _ (.tail _ hφ))))) (fun qq hq _=>?_)
        obtain⟨qa,qc,qL,ra,rc,va,vc⟩:=qq
        obtain⟨q1,q2,q3,q4,q5⟩:=hq
        have q1:qL.map acP=joinS s.S:=q1
        have q3:Sl qa qL.length qc:=q3
        have q4:Sl ra t0.r.l.length rc:=q4
        conv=>arg 5;whnf
        refine wp_must ⟨by show (0:Int)≤1;decide,by show (1:Int)<2;decide⟩ ?_
        conv=>arg 5;whnf
        refine meetc (f:=18) (v:=.bool true) rfl (by kernel_rfl) (fun β ρ w' hM'=>rsameR t1.r yb.a yb.c ta tc w' hy1.2 (hM'.at_ (show rowF (pt yb.a t1.r.l.length) (cellsL t1.r.l)∈((⟨qa,qc,qL,ra,rc,va,vc⟩:An).fs (joinS s.S,t0.r,e2)++((⟨za,zc,zL,ta,tc,ea,ec⟩:An).fs (joinS s1.S,t1.r,e1)++(G3 ya yb t0 t1 x s (G1 u JL ba bn bs x0 s0)))) from List.mem_append_right _ (List.mem_append_right _ (.tail _ (List.mem_append_right _ (List.mem_append_left _ (List.mem_append_right _ (.head _)))))))) z4 (hM'.at_ (show rowF (pt ta t1.r.l.length) (cellsL t1.r.l)∈((⟨qa,qc,qL,ra,rc,va,vc⟩:An).fs (joinS s.S,t0.r,e2)++((⟨za,zc,zL,ta,tc,ea,ec⟩:An).fs (joinS s1.S,t1.r,e1)++(G3 ya yb t0 t1 x s (G1 u JL ba bn bs x0 s0)))) from List.mem_append_right _ (List.mem_append_left _ (.head _))))) ?_
        conv=>arg 5;whnf
        refine wp_must ⟨by show (-9223372036854775808:Int)≤1 - 1;decide,by show (1:Int) - 1≤9223372036854775807;decide⟩ ?_
        conv=>arg 5;whnf
        refine wp_must ⟨by show (0:Int)≤1 - 1;decide,by show (1:Int) - 1<2;decide⟩ ?_
        conv=>arg 5;whnf
        refine meetc (f:=18) (v:=.bool true) rfl (by kernel_rfl) (fun β ρ w' hM'=>rsameR t0.r ya.a ya.c ra rc w' hy0.2 (hM'.at_ (show rowF (pt ya.a t0.r.l.length) (cellsL t0.r.l)∈((⟨qa,qc,qL,ra,rc,va,vc⟩:An).fs (joinS s.S,t0.r,e2)++((⟨za,zc,zL,ta,tc,ea,ec⟩:An).fs (joinS s1.S,t1.r,e1)++(G3 ya yb t0 t1 x s (G1 u JL ba bn bs x0 s0)))) from List.mem_append_right _ (List.mem_append_right _ (.tail _ (List.mem_append_left _ (List.mem_append_right _ (.head _))))))) q4 (hM'.at_ (show rowF (pt ra t0.r.l.length) (cellsL t0.r.l)∈((⟨qa,qc,qL,ra,rc,va,vc⟩:An).fs (joinS s.S,t0.r,e2)++((⟨za,zc,zL,ta,tc,ea,ec⟩:An).fs (joinS s1.S,t1.r,e1)++(G3 ya yb t0 t1 x s (G1 u JL ba bn bs x0 s0)))) from List.mem_append_left _ (.head _)))) ?_
        conv=>arg 5;whnf
        refine meet1F (f:=17) (n:=x.S.length) (v:=fun a1 c1=>sgV s ⟨x.la,x.lc,a1,c1,x.S⟩) (xs:=cellsS x.S) rfl (by kernel_rfl) (fun β ρ w' hM'=>toldS s x w' hx.1 hx.2.1 (hM'.at_ (show rowF (pt x.sa x.S.length) (cellsS x.S)∈((⟨qa,qc,qL,ra,rc,va,vc⟩:An).fs (joinS s.S,t0.r,e2)++((⟨za,zc,zL,ta,tc,ea,ec⟩:An).fs (joinS s1.S,t1.r,e1)++(G3 ya yb t0 t1 x s (G1 u JL ba bn bs x0 s0)))) from List.mem_append_right _ (List.mem_append_right _ (.tail _ (List.mem_append_right _ (List.mem_append_right _ (List.mem_append_left _ (.tail _ (.head _))))))))) (by omega)) (fun g c_g h_g f_g=>?_)
        conv=>arg 5;whnf
        refine wp_prim (.slice g x.S.length c_g) (fun w=>by kernel_rfl) ?_
        conv=>arg 5;whnf
        refine meet1F (f:=10) (n:=JY.length) (v:=fun a1 c1=>.slice a1 JY.length c1) (xs:=cellsA JY) rfl (by kernel_rfl) (fun β ρ w' hM'=>RJ2 g c_g w' h_g (fun φ hφ g' hg'=>(hM'.fact φ (show φ∈(rowF (pt g x.S.length) (cellsS x.S)::((⟨qa,qc,qL,ra,rc,va,vc⟩:An).fs (joinS s.S,t0.r,e2)++((⟨za,zc,zL,ta,tc,ea,ec⟩:An).fs (joinS s1.S,t1.r,e1)++(G3 ya yb t0 t1 x s (G1 u JL ba bn bs x0 s0))))) from (List.mem_cons.1 hφ).elim (fun e=>e▸.head _) fun hφ=>.tail _ (List.mem_append_right _ (List.mem_append_right _ (.tail _ (List.mem_append_right _ (List.mem_append_right _ (List.mem_append_left _ (.tail _ (.tail _ hφ))))))))) g' hg').2)) (fun j c_j h_j f_j=>?_)
        conv=>arg 5;whnf
        refine meetc (f:=20) (v:=.bool true) rfl (by kernel_rfl) (fun β ρ w' hM'=>raccounts JY qL (hmap'.trans q1.symm) j JY.length c_j qa qL.length qc w' (⟨h_j,rfl,hM'.at_ (show rowF (pt j JY.length) (cellsA JY)∈(rowF (pt j JY.length) (cellsA JY)::(rowF (pt g x.S.length) (cellsS x.S)::((⟨qa,qc,qL,ra,rc,va,vc⟩:An).fs (joinS s.S,t0.r,e2)++((⟨za,zc,zL,ta,tc,ea,ec⟩:An).fs (joinS s1.S,t1.r,e1)++(G3 ya yb t0 t1 x s (G1 u JL ba bn bs x0 s0)))))) from .head _),fun z hz=>⟨(hjf2 z hz).1,hM'.at_ (a:=pt z.a z.n) (xs:=cellsL z.l) (show acF z∈(rowF (pt j JY.length) (cellsA JY)::(rowF (pt g x.S.length) (cellsS x.S)::((⟨qa,qc,qL,ra,rc,va,vc⟩:An).fs (joinS s.S,t0.r,e2)++((⟨za,zc,zL,ta,tc,ea,ec⟩:An).fs (joinS s1.S,t1.r,e1)++(G3 ya yb t0 t1 x s (G1 u JL ba bn bs x0 s0)))))) from .tail _ (.tail _ (List.mem_append_right _ (List.mem_append_right _ (.tail _ (List.mem_append_right _ (List.mem_append_right _ (List.mem_append_left _ ((hjf2 z hz).2)))))))))⟩⟩:Acs w' j JY.length c_j JY) (acs_of hM' q3 rfl q2 fun φ hφ=>(show φ∈(rowF (pt j JY.length) (cellsA JY)::(rowF (pt g x.S.length) (cellsS x.S)::((⟨qa,qc,qL,ra,rc,va,vc⟩:An).fs (joinS s.S,t0.r,e2)++((⟨za,zc,zL,ta,tc,ea,ec⟩:An).fs (joinS s1.S,t1.r,e1)++(G3 ya yb t0 t1 x s (G1 u JL ba bn bs x0 s0)))))) from .tail _ (.tail _ (List.mem_append_left _ (.tail _ (.tail _ hφ))))))) ?_
        conv=>arg 5;whnf
        refine meetc (f:=9) (v:=.bool true) rfl (by kernel_rfl) (fun β ρ w' hM'=>task.live w' (hM.later hM'.below)) ?_
        conv=>arg 5;whnf
        exact wp_back fun β ρ w' hM'=>⟨rfl,hM'.below⟩
end Go.Proofs.YtmoopmcdolonjaaGreatDoor.taskTwo
