/- The walk of hopperlaw17.EvictParts. -/
import Derived.Test.YtfhgkkcpkcjbmaaGreatDoorKEvGG
import Derived.Test.YtfhgkkcpkcjbmaaGreatDoorKEvWW
import Derived.Test.YtfhgkkcpkcjbmaaGreatDoorKEvO
import Derived.Test.YtfhgkkcpkcjbmaaGreatDoorKEv3Env
import Derived.Test.YtfhgkkcpkcjbmaaGreatDoorKTkRR
set_option linter.all false
set_option maxHeartbeats 4000000
set_option maxRecDepth 100000
namespace Go.Proofs.YtfhgkkcpkcjbmaaGreatDoor.evictParts
open Go.RowKit Sx txn queue greedy shard pool Go.Proofs.YtfhgkkcpkcjbmaaGreatDoor.look lock Go.Proofs.YtfhgkkcpkcjbmaaGreatDoor.task Go.Proofs.YtfhgkkcpkcjbmaaGreatDoor.evict
theorem mem_r {A B:List Fact} {φ:Fact} (h:φ∈B):φ∈A++B:=List.mem_append_right _ h
theorem at_pt {w:World} {a:Option Addr} {xs:List Value} (n:Nat) (h:At w a xs):At w (pt a n) xs:=by
 unfold Sx.pt
 split
 ·exact fun g hg=>by cases hg
 ·exact h
theorem wp_keep2 {A:Ea→Prop} {S1 S2:Ea→Prop} {x:Prop} (h:(∀a,A a→S1 a)→(∀a,A a→S2 a)→x) (h1:∀a,A a→S1 a) (h2:∀a,A a→S2 a):x:=h h1 h2
theorem run_shift (who:Int) (v:Ek) (s:Sg) (E:List Ev) (n:Int):∀k,runZ who ⟨v,s,E,n⟩ k=⟨(runZ who ⟨v,s,[],0⟩ k).v,(runZ who ⟨v,s,[],0⟩ k).s,E++(runZ who ⟨v,s,[],0⟩ k).ev,n+(runZ who ⟨v,s,[],0⟩ k).n⟩
 | 0=>by show (⟨v,s,E,n⟩:evict.Rz)=⟨v,s,E++[],n+0⟩;rw [List.append_nil,Int.add_zero]
 | k+1=>by
  have ih:=run_shift who v s E n k
  show stZ who (runZ who ⟨v,s,E,n⟩ k)=⟨(stZ who (runZ who ⟨v,s,[],0⟩ k)).v,(stZ who (runZ who ⟨v,s,[],0⟩ k)).s,E++(stZ who (runZ who ⟨v,s,[],0⟩ k)).ev,n+(stZ who (runZ who ⟨v,s,[],0⟩ k)).n⟩
  rw [ih]
  generalize runZ who ⟨v,s,[],0⟩ k=z
  obtain ⟨zv,zs,ze,zn⟩:=z
  unfold stZ
  simp only
  split
  ·simp only [List.append_assoc,Int.add_assoc]
  ·rfl
theorem run_two {who:Int} {v:Ek} {s:Sg} {z1 z2:evict.Rz} {j k:Nat} (h1:runZ who ⟨v,s,[],0⟩ j=z1) (h2:runZ who ⟨z1.v,z1.s,[],0⟩ k=z2):runZ who ⟨v,s,[],0⟩ (j+k)=⟨z2.v,z2.s,z1.ev++z2.ev,z1.n+z2.n⟩:=by
 rw [run_add,h1]
 obtain ⟨a,b,c,d⟩:=z1
 rw [run_shift,h2]
section
variable {W : World} {G : Option Nat} {Q : Ending → World → Prop} {ds : List Deferred}
theorem meetRun {f:FuncId} {args:List Sx.T} {l:List Value} {m:M} {k:Value→List Fact→Tree} (Z:evict.Rz) (N:Nat) (old:List Fact) (hold:∀ψ∈old,ψ∈m.facts) (hv:valsOf args=some l) (hc:callable Tryz.prog f=true)
  (hC:∀β ρ w,Mem W G m β ρ w→Calls Tryz.prog f (List.toArray l) w fun e w'=>∃z:evict.Rz,z=Z∧Gd z.v z.s∧(z.ev.length≤N*1000∧0≤z.n∧z.n≤N)∧Et (Ea.vR z.n) w w' old e ⟨z.v,z.s,z.ev,false⟩)
  (h:Gd Z.v Z.s→(Z.ev.length≤N*1000∧0≤Z.n∧Z.n≤N)→∀a:Ea,a.ok ⟨Z.v,Z.s,Z.ev,false⟩→(∀φ∈a.fs ⟨Z.v,Z.s,Z.ev,false⟩,New W old φ)→(k (Ea.vR Z.n a ⟨Z.v,Z.s,Z.ev,false⟩) (a.fs ⟨Z.v,Z.s,Z.ev,false⟩)).wpD Tryz.prog W G Q ds):(Tree.call f args m k).wpD Tryz.prog W G Q ds:=
 meetLy (ι:=Ea) (ok:=fun a=>(Gd Z.v Z.s∧(Z.ev.length≤N*1000∧0≤Z.n∧Z.n≤N))∧a.ok ⟨Z.v,Z.s,Z.ev,false⟩) (v:=fun a=>Ea.vR Z.n a ⟨Z.v,Z.s,Z.ev,false⟩) (fs:=fun a=>a.fs ⟨Z.v,Z.s,Z.ev,false⟩) old hold hv hc
  (fun β ρ w hM=>(hC β ρ w hM).mono fun e w' ⟨z,hz,h1,h2,a,h3,h4⟩=>by subst hz;exact ⟨a,⟨⟨h1,h2⟩,h3⟩,h4⟩)
  fun a ha hn=>h ha.1.1 ha.1.2 a ha.2 hn
end
theorem walk (v:Ek) (y0:Pn) (who m1 m2:Int) (s0:Sg) (x0:Sn) (w:World) (hM:Most w) (hE:EkIn w y0 v) (hW:Fits who∧Fits m1∧Fits m2) (hI:SgIn w x0 s0∧s0.fits) :
  Calls Tryz.prog 5 (List.toArray [ekV v y0,.agg #[.int .i64 who,.int .i64 m1,.int .i64 m2],sgV s0 x0]) w fun e w'=>e=.returned (.bool true)∧Below w.heap.size w w':=by
 obtain ⟨hI,_⟩:=hI
 obtain ⟨hy0,hyf,hyd⟩:=hE
 have SM:=fun w' (h:SgIn w' x0 s0)=>small s0 x0 w' h
 have hsm:=fun (hb:smallB x0 s0=true)=>hI.small hb
 have FW:=fun w' hr=>fewV v y0 w' hy0 hr
 have hfw:=fun (h:fewE v=true)=>fewE_iff h
 generalize smallB x0 s0=sb at *
 generalize fewE v=fb at *
 refine calls_of_exec Sxe3.env_ok.keeps Tryz.func5 rfl [(4,(.one 0 (.one 2 (.one 3 (.one 4 (.one 5 (.one 6 (.fork3 1 (.fork3 7 (.one 8 (.one 9 (.one 10 (.one 11 (.one 12 (.fork 13 (.one 14 (.one 15 (.one 16 (.one 17 (.one 18 (.done)))))) 14 (.one 13 (.one 15 (.one 16 (.one 17 (.one 18 (.done)))))))))))) 13 (.fork 7 (.one 8 (.one 9 (.one 10 (.one 11 (.one 12 (.one 14 (.one 15 (.one 16 (.one 17 (.one 18 (.done))))))))))) 14 (.one 7 (.one 8 (.one 9 (.one 10 (.one 11 (.one 12 (.one 15 (.one 16 (.one 17 (.one 18 (.done)))))))))))) 14 (.fork 7 (.one 8 (.one 9 (.one 10 (.one 11 (.one 12 (.one 13 (.one 15 (.one 16 (.one 17 (.one 18 (.done))))))))))) 13 (.one 7 (.one 8 (.one 9 (.one 10 (.one 11 (.one 12 (.one 15 (.one 16 (.one 17 (.one 18 (.done))))))))))))) 13 (.fork 1 (.fork 7 (.one 8 (.one 9 (.one 10 (.one 11 (.one 12 (.one 14 (.one 15 (.one 16 (.one 17 (.one 18 (.done))))))))))) 14 (.one 7 (.one 8 (.one 9 (.one 10 (.one 11 (.one 12 (.one 15 (.one 16 (.one 17 (.one 18 (.done)))))))))))) 14 (.one 1 (.one 7 (.one 8 (.one 9 (.one 10 (.one 11 (.one 12 (.one 15 (.one 16 (.one 17 (.one 18 (.done))))))))))))) 14 (.fork 1 (.fork 7 (.one 8 (.one 9 (.one 10 (.one 11 (.one 12 (.one 13 (.one 15 (.one 16 (.one 17 (.one 18 (.done))))))))))) 13 (.one 7 (.one 8 (.one 9 (.one 10 (.one 11 (.one 12 (.one 15 (.one 16 (.one 17 (.one 18 (.done)))))))))))) 13 (.one 1 (.one 7 (.one 8 (.one 9 (.one 10 (.one 11 (.one 12 (.one 15 (.one 16 (.one 17 (.one 18 (.done))))))))))))))))))),[])),(6,(.one 0 (.one 2 (.one 3 (.one 4 (.one 5 (.one 6 (.one 7 (.one 8 (.one 9 (.fork3 1 (.fork3 10 (.one 11 (.one 12 (.one 13 (.one 14 (.one 15 (.fork 16 (.one 17 (.one 18 (.one 19 (.one 20 (.one 21 (.done)))))) 17 (.one 16 (.one 18 (.one 19 (.one 20 (.one 21 (.done)))))))))))) 16 (.fork 10 (.one 11 (.one 12 (.one 13 (.one 14 (.one 15 (.one 17 (.one 18 (.one 19 (.one 20 (.one 21 (.done))))))))))) 17 (.one 10 (.one 11 (.one 12 (.one 13 (.one 14 (.one 15 (.one 18 (.one 19 (.one 20 (.one 21 (.done)))))))))))) 17 (.fork 10 (.one 11 (.one 12 (.one 13 (.one 14 (.one 15 (.one 16 (.one 18 (.one 19 (.one 20 (.one 21 (.done))))))))))) 16 (.one 10 (.one 11 (.one 12 (.one 13 (.one 14 (.one 15 (.one 18 (.one 19 (.one 20 (.one 21 (.done))))))))))))) 16 (.fork 1 (.fork 10 (.one 11 (.one 12 (.one 13 (.one 14 (.one 15 (.one 17 (.one 18 (.one 19 (.one 20 (.one 21 (.done))))))))))) 17 (.one 10 (.one 11 (.one 12 (.one 13 (.one 14 (.one 15 (.one 18 (.one 19 (.one 20 (.one 21 (.done)))))))))))) 17 (.one 1 (.one 10 (.one 11 (.one 12 (.one 13 (.one 14 (.one 15 (.one 18 (.one 19 (.one 20 (.one 21 (.done))))))))))))) 17 (.fork 1 (.fork 10 (.one 11 (.one 12 (.one 13 (.one 14 (.one 15 (.one 16 (.one 18 (.one 19 (.one 20 (.one 21 (.done))))))))))) 16 (.one 10 (.one 11 (.one 12 (.one 13 (.one 14 (.one 15 (.one 18 (.one 19 (.one 20 (.one 21 (.done)))))))))))) 16 (.one 1 (.one 10 (.one 11 (.one 12 (.one 13 (.one 14 (.one 15 (.one 18 (.one 19 (.one 20 (.one 21 (.done)))))))))))))))))))))),[])),(9,(line [0,2,1,3,4,5,6,8,7,9,10,11,12,13,14,15,16,17,18,19,20,21,22,23,24,25,26,27],[]))] (by kernel_rfl) (y0.fsN v++sgF x0 s0) (fun φ hφ=>(List.mem_append.1 hφ).elim (fun h=>hyf φ h) (hI.facts φ)) ?_
 refine cut_seq rfl ?_
 intro B0 hB0
 conv=>arg 5;whnf
 subst hB0
 refine cut_seq rfl ?_
 intro B1 hB1
 conv=>arg 5;whnf
 refine meetc (f:=13) (v:=.bool sb) rfl (by kernel_rfl) (fun β ρ w' hM'=>SM w' (hI.mem hM' fun φ hφ=>(show φ∈(y0.fsN v++sgF x0 s0) from mem_r hφ))) ?_
 cases sb with
 | false=>
  conv=>arg 5;whnf
  refine meetc (f:=15) (v:=.bool true) rfl (by kernel_rfl) (fun β ρ w' hM'=>evict.live w' (hM.later hM'.below)) ?_
  conv=>arg 5;whnf
  exact wp_back fun β ρ w' hM'=>⟨rfl,hM'.below⟩
 | true=>
  obtain ⟨hx0,hl10,hS10,hq20,hz20⟩:=hsm rfl
  conv=>arg 5;whnf
  refine meetc (f:=29) (v:=.bool fb) rfl (by kernel_rfl) (fun β ρ w' hM'=>FW w' (hM'.at_ (show rowF (pt y0.a v.P.l.length) (cellsL v.P.l)∈(y0.fsN v++sgF x0 s0) from List.mem_append_left _ (.head _)))) ?_
  cases fb with
  | false=>
   conv=>arg 5;whnf
   refine meetc (f:=15) (v:=.bool true) rfl (by kernel_rfl) (fun β ρ w' hM'=>evict.live w' (hM.later hM'.below)) ?_
   conv=>arg 5;whnf
   exact wp_back fun β ρ w' hM'=>⟨rfl,hM'.below⟩
  | true=>
   obtain ⟨ht5,hfl,hl3,he3,hr3⟩:=hfw rfl
   conv=>arg 5;whnf
   refine wp_must ⟨by decide,by decide⟩ ?_
   conv=>arg 5;whnf
   refine wp_g0 (fun g0=>?_) (fun g0=>?_)
   rotate_left
   ·skip
    conv=>arg 5;whnf
    refine meetc (f:=15) (v:=.bool true) rfl (by kernel_rfl) (fun β ρ w' hM'=>evict.live w' (hM.later hM'.below)) ?_
    conv=>arg 5;whnf
    exact wp_back fun β ρ w' hM'=>⟨rfl,hM'.below⟩
   conv=>arg 5;whnf
   refine wp_must ⟨by decide,by decide⟩ ?_
   conv=>arg 5;whnf
   refine wp_g0 (fun g1=>?_) (fun g1=>?_)
   rotate_left
   ·skip
    conv=>arg 5;whnf
    refine meetc (f:=15) (v:=.bool true) rfl (by kernel_rfl) (fun β ρ w' hM'=>evict.live w' (hM.later hM'.below)) ?_
    conv=>arg 5;whnf
    exact wp_back fun β ρ w' hM'=>⟨rfl,hM'.below⟩
   conv=>arg 5;whnf
   refine wp_must ⟨by decide,by decide⟩ ?_
   conv=>arg 5;whnf
   refine wp_g0 (fun g2=>?_) (fun g2=>?_)
   rotate_left
   ·skip
    conv=>arg 5;whnf
    refine meetc (f:=15) (v:=.bool true) rfl (by kernel_rfl) (fun β ρ w' hM'=>evict.live w' (hM.later hM'.below)) ?_
    conv=>arg 5;whnf
    exact wp_back fun β ρ w' hM'=>⟨rfl,hM'.below⟩
   conv=>arg 5;whnf
   refine wp_must ⟨by decide,by decide⟩ ?_
   conv=>arg 5;whnf
   refine wp_br (fun g3=>?_) (fun g3=>?_)
   ·skip
    conv=>arg 5;whnf
    refine meetc (f:=15) (v:=.bool true) rfl (by kernel_rfl) (fun β ρ w' hM'=>evict.live w' (hM.later hM'.below)) ?_
    conv=>arg 5;whnf
    exact wp_back fun β ρ w' hM'=>⟨rfl,hM'.below⟩
   have k1:0≤m1∧m1≤60∧0≤m2∧m2≤60:=by have a:=of_decide_eq_false g0;have b:=of_decide_eq_false g1;have c:=of_decide_eq_false g2;have d:=of_decide_eq_false g3;omega
   clear g0 g1 g2 g3
   conv=>arg 5;whnf
   subst hB1
   refine cut_seq rfl ?_
   intro B2 hB2
   conv=>arg 5;whnf
   refine meet1F (f:=20) (n:=x0.S.length) (v:=fun a1 c1=>sgV s0 ⟨x0.la,x0.lc,a1,c1,x0.S⟩) (xs:=cellsS x0.S) rfl (by kernel_rfl) (fun β ρ w' hM'=>ownS s0 x0 w' hx0.1 hx0.2.1 (hM'.at_ (show rowF (pt x0.sa x0.S.length) (cellsS x0.S)∈(y0.fsN v++sgF x0 s0) from mem_r (.tail _ (.head _)))) (by have:=sgs_len hx0;omega)) (fun u c_u h_u f_u=>?_)
   have hx1:Sgo (⟨x0.la,x0.lc,u,c_u,x0.S⟩:Sn) s0:=⟨hx0.1,h_u,hx0.2.2.1,hx0.2.2.2⟩
   have hG:Gd v s0:=⟨by omega,hyd,by omega,by omega,⟨by omega,by omega,fun q hq=>by
    rw [← hx0.2.2.2] at hq
    obtain ⟨r,hr,rfl⟩:=List.mem_map.1 hq
    have a:=hq20 r hr
    have b:=(hx0.2.2.1 r hr).2.1
    show (r.L.map acP).length≤_
    rw [List.length_map]
    omega⟩⟩
   have RUN1:=fun w hM hyf hxf=>run v y0 who s0 (⟨x0.la,x0.lc,u,c_u,x0.S⟩:Sn) m1 w hM hy0 hyf hx1 hxf hG
   have RUN3:=fun w hM hyf hxf=>run v y0 who s0 (⟨x0.la,x0.lc,u,c_u,x0.S⟩:Sn) (m1+m2) w hM hy0 hyf hx1 hxf hG
   have RUN2:=fun (Z1:evict.Rz) (y1:Pn) (x1:Sn) hy1 hx1 (hG1:Gd Z1.v Z1.s) w hM hyf hxf=>run Z1.v y1 who Z1.s x1 m2 w hM hy1 hyf hx1 hxf hG1
   have T2:=fun Z1 Z2 h1 h2=>run_two (who:=who) (v:=v) (s:=s0) (z1:=Z1) (z2:=Z2) (j:=(min m1 10000).toNat) (k:=(min m2 10000).toNat) h1 h2
   obtain ⟨Z1,hZ1⟩:∃Z1,runZ who ⟨v,s0,[],0⟩ (min m1 10000).toNat=Z1:=⟨_,rfl⟩
   obtain ⟨Z2,hZ2⟩:∃Z2,runZ who ⟨Z1.v,Z1.s,[],0⟩ (min m2 10000).toNat=Z2:=⟨_,rfl⟩
   have hZ3:=T2 Z1 Z2 hZ1 hZ2
   rw [show (min m1 10000).toNat+(min m2 10000).toNat=(min (m1+m2) 10000).toNat by omega] at hZ3
   clear T2
   conv=>arg 5;whnf
   subst hB2
   refine cut_seq rfl ?_
   intro B3 hB3
   apply wp_keep2 (A:=fun a=>Gd Z1.v Z1.s∧(Z1.ev.length≤(min m1 10000).toNat*1000∧0≤Z1.n∧Z1.n≤(min m1 10000).toNat)∧a.ok ⟨Z1.v,Z1.s,Z1.ev,false⟩∧∀φ∈a.fs ⟨Z1.v,Z1.s,Z1.ev,false⟩,New w (y0.fsN v++sgF (⟨x0.la,x0.lc,u,c_u,x0.S⟩:Sn) s0) φ)
   ·intro keyF keyT
    conv=>arg 5;whnf
    refine wp_must ⟨by decide,by decide⟩ ?_
    conv=>arg 5;whnf
    refine wp_must ⟨by decide,by decide⟩ ?_
    conv=>arg 5;whnf
    refine wp_both ?_ (wp_both ?_ ?_)
    ·skip
     conv=>arg 5;whnf
     refine meetc (f:=30) (v:=ekV v y0) rfl (by kernel_rfl) (fun β ρ w' hM'=>ownV v y0 w') ?_
     conv=>arg 5;whnf
     refine wp_both ?_ (wp_both ?_ ?_)
     ·skip
      conv=>arg 5;whnf
      refine meetRun (f:=19) Z1 (min m1 10000).toNat (y0.fsN v++sgF (⟨x0.la,x0.lc,u,c_u,x0.S⟩:Sn) s0) (fun φ hφ=>(show φ∈(rowF (pt u x0.S.length) (cellsS x0.S)::(y0.fsN v++sgF x0 s0)) from (List.mem_append.1 hφ).elim (fun h=>.tail _ (List.mem_append_left _ h)) fun hφ=>(List.mem_cons.1 hφ).elim (fun e=>e▸.tail _ (mem_r (.head _))) fun hφ=>(List.mem_cons.1 hφ).elim (fun e=>e▸.head _) fun hφ=>.tail _ (mem_r (.tail _ (.tail _ hφ))))) rfl (by kernel_rfl) (fun β ρ w' hM'=>hZ1▸RUN1 w' (hM.later hM'.below) (fun φ hφ g hg=>(hM'.fact φ (show φ∈(rowF (pt u x0.S.length) (cellsS x0.S)::(y0.fsN v++sgF x0 s0)) from by exact .tail _ (List.mem_append_left _ hφ)) g hg).2) (fun φ hφ g hg=>(hM'.fact φ (show φ∈(rowF (pt u x0.S.length) (cellsS x0.S)::(y0.fsN v++sgF x0 s0)) from (List.mem_cons.1 hφ).elim (fun e=>e▸.tail _ (mem_r (.head _))) fun hφ=>(List.mem_cons.1 hφ).elim (fun e=>e▸.head _) fun hφ=>.tail _ (mem_r (.tail _ (.tail _ hφ)))) g hg).2)) (fun G1 b1 a ha hnew=>?_)
      conv=>arg 5;whnf
      refine wp_both ?_ ?_
      ·skip
       conv=>arg 5;whnf
       exact keyF a ⟨G1,b1,ha,hnew⟩
      ·skip
       conv=>arg 5;whnf
       exact keyT a ⟨G1,b1,ha,hnew⟩
     ·skip
      conv=>arg 5;whnf
      refine wp_both ?_ ?_
      ·skip
       conv=>arg 5;whnf
       refine meetRun (f:=19) Z1 (min m1 10000).toNat (y0.fsN v++sgF (⟨x0.la,x0.lc,u,c_u,x0.S⟩:Sn) s0) (fun φ hφ=>(show φ∈(rowF (pt u x0.S.length) (cellsS x0.S)::(y0.fsN v++sgF x0 s0)) from (List.mem_append.1 hφ).elim (fun h=>.tail _ (List.mem_append_left _ h)) fun hφ=>(List.mem_cons.1 hφ).elim (fun e=>e▸.tail _ (mem_r (.head _))) fun hφ=>(List.mem_cons.1 hφ).elim (fun e=>e▸.head _) fun hφ=>.tail _ (mem_r (.tail _ (.tail _ hφ))))) rfl (by kernel_rfl) (fun β ρ w' hM'=>hZ1▸RUN1 w' (hM.later hM'.below) (fun φ hφ g hg=>(hM'.fact φ (show φ∈(rowF (pt u x0.S.length) (cellsS x0.S)::(y0.fsN v++sgF x0 s0)) from by exact .tail _ (List.mem_append_left _ hφ)) g hg).2) (fun φ hφ g hg=>(hM'.fact φ (show φ∈(rowF (pt u x0.S.length) (cellsS x0.S)::(y0.fsN v++sgF x0 s0)) from (List.mem_cons.1 hφ).elim (fun e=>e▸.tail _ (mem_r (.head _))) fun hφ=>(List.mem_cons.1 hφ).elim (fun e=>e▸.head _) fun hφ=>.tail _ (mem_r (.tail _ (.tail _ hφ)))) g hg).2)) (fun G1 b1 a ha hnew=>?_)
       conv=>arg 5;whnf
       exact keyF a ⟨G1,b1,ha,hnew⟩
      ·skip
       conv=>arg 5;whnf
       refine meetRun (f:=19) Z1 (min m1 10000).toNat (y0.fsN v++sgF (⟨x0.la,x0.lc,u,c_u,x0.S⟩:Sn) s0) (fun φ hφ=>(show φ∈(rowF (pt u x0.S.length) (cellsS x0.S)::(y0.fsN v++sgF x0 s0)) from (List.mem_append.1 hφ).elim (fun h=>.tail _ (List.mem_append_left _ h)) fun hφ=>(List.mem_cons.1 hφ).elim (fun e=>e▸.tail _ (mem_r (.head _))) fun hφ=>(List.mem_cons.1 hφ).elim (fun e=>e▸.head _) fun hφ=>.tail _ (mem_r (.tail _ (.tail _ hφ))))) rfl (by kernel_rfl) (fun β ρ w' hM'=>hZ1▸RUN1 w' (hM.later hM'.below) (fun φ hφ g hg=>(hM'.fact φ (show φ∈(rowF (pt u x0.S.length) (cellsS x0.S)::(y0.fsN v++sgF x0 s0)) from by exact .tail _ (List.mem_append_left _ hφ)) g hg).2) (fun φ hφ g hg=>(hM'.fact φ (show φ∈(rowF (pt u x0.S.length) (cellsS x0.S)::(y0.fsN v++sgF x0 s0)) from (List.mem_cons.1 hφ).elim (fun e=>e▸.tail _ (mem_r (.head _))) fun hφ=>(List.mem_cons.1 hφ).elim (fun e=>e▸.head _) fun hφ=>.tail _ (mem_r (.tail _ (.tail _ hφ)))) g hg).2)) (fun G1 b1 a ha hnew=>?_)
       conv=>arg 5;whnf
       exact keyF a ⟨G1,b1,ha,hnew⟩
     ·skip
      conv=>arg 5;whnf
      refine wp_both ?_ ?_
      ·skip
       conv=>arg 5;whnf
       refine meetRun (f:=19) Z1 (min m1 10000).toNat (y0.fsN v++sgF (⟨x0.la,x0.lc,u,c_u,x0.S⟩:Sn) s0) (fun φ hφ=>(show φ∈(rowF (pt u x0.S.length) (cellsS x0.S)::(y0.fsN v++sgF x0 s0)) from (List.mem_append.1 hφ).elim (fun h=>.tail _ (List.mem_append_left _ h)) fun hφ=>(List.mem_cons.1 hφ).elim (fun e=>e▸.tail _ (mem_r (.head _))) fun hφ=>(List.mem_cons.1 hφ).elim (fun e=>e▸.head _) fun hφ=>.tail _ (mem_r (.tail _ (.tail _ hφ))))) rfl (by kernel_rfl) (fun β ρ w' hM'=>hZ1▸RUN1 w' (hM.later hM'.below) (fun φ hφ g hg=>(hM'.fact φ (show φ∈(rowF (pt u x0.S.length) (cellsS x0.S)::(y0.fsN v++sgF x0 s0)) from by exact .tail _ (List.mem_append_left _ hφ)) g hg).2) (fun φ hφ g hg=>(hM'.fact φ (show φ∈(rowF (pt u x0.S.length) (cellsS x0.S)::(y0.fsN v++sgF x0 s0)) from (List.mem_cons.1 hφ).elim (fun e=>e▸.tail _ (mem_r (.head _))) fun hφ=>(List.mem_cons.1 hφ).elim (fun e=>e▸.head _) fun hφ=>.tail _ (mem_r (.tail _ (.tail _ hφ)))) g hg).2)) (fun G1 b1 a ha hnew=>?_)
       conv=>arg 5;whnf
       exact keyT a ⟨G1,b1,ha,hnew⟩
      ·skip
       conv=>arg 5;whnf
       refine meetRun (f:=19) Z1 (min m1 10000).toNat (y0.fsN v++sgF (⟨x0.la,x0.lc,u,c_u,x0.S⟩:Sn) s0) (fun φ hφ=>(show φ∈(rowF (pt u x0.S.length) (cellsS x0.S)::(y0.fsN v++sgF x0 s0)) from (List.mem_append.1 hφ).elim (fun h=>.tail _ (List.mem_append_left _ h)) fun hφ=>(List.mem_cons.1 hφ).elim (fun e=>e▸.tail _ (mem_r (.head _))) fun hφ=>(List.mem_cons.1 hφ).elim (fun e=>e▸.head _) fun hφ=>.tail _ (mem_r (.tail _ (.tail _ hφ))))) rfl (by kernel_rfl) (fun β ρ w' hM'=>hZ1▸RUN1 w' (hM.later hM'.below) (fun φ hφ g hg=>(hM'.fact φ (show φ∈(rowF (pt u x0.S.length) (cellsS x0.S)::(y0.fsN v++sgF x0 s0)) from by exact .tail _ (List.mem_append_left _ hφ)) g hg).2) (fun φ hφ g hg=>(hM'.fact φ (show φ∈(rowF (pt u x0.S.length) (cellsS x0.S)::(y0.fsN v++sgF x0 s0)) from (List.mem_cons.1 hφ).elim (fun e=>e▸.tail _ (mem_r (.head _))) fun hφ=>(List.mem_cons.1 hφ).elim (fun e=>e▸.head _) fun hφ=>.tail _ (mem_r (.tail _ (.tail _ hφ)))) g hg).2)) (fun G1 b1 a ha hnew=>?_)
       conv=>arg 5;whnf
       exact keyT a ⟨G1,b1,ha,hnew⟩
    ·skip
     conv=>arg 5;whnf
     refine wp_both ?_ ?_
     ·skip
      conv=>arg 5;whnf
      refine meetc (f:=30) (v:=ekV v y0) rfl (by kernel_rfl) (fun β ρ w' hM'=>ownV v y0 w') ?_
      conv=>arg 5;whnf
      refine wp_both ?_ ?_
      ·skip
       conv=>arg 5;whnf
       refine meetRun (f:=19) Z1 (min m1 10000).toNat (y0.fsN v++sgF (⟨x0.la,x0.lc,u,c_u,x0.S⟩:Sn) s0) (fun φ hφ=>(show φ∈(rowF (pt u x0.S.length) (cellsS x0.S)::(y0.fsN v++sgF x0 s0)) from (List.mem_append.1 hφ).elim (fun h=>.tail _ (List.mem_append_left _ h)) fun hφ=>(List.mem_cons.1 hφ).elim (fun e=>e▸.tail _ (mem_r (.head _))) fun hφ=>(List.mem_cons.1 hφ).elim (fun e=>e▸.head _) fun hφ=>.tail _ (mem_r (.tail _ (.tail _ hφ))))) rfl (by kernel_rfl) (fun β ρ w' hM'=>hZ1▸RUN1 w' (hM.later hM'.below) (fun φ hφ g hg=>(hM'.fact φ (show φ∈(rowF (pt u x0.S.length) (cellsS x0.S)::(y0.fsN v++sgF x0 s0)) from by exact .tail _ (List.mem_append_left _ hφ)) g hg).2) (fun φ hφ g hg=>(hM'.fact φ (show φ∈(rowF (pt u x0.S.length) (cellsS x0.S)::(y0.fsN v++sgF x0 s0)) from (List.mem_cons.1 hφ).elim (fun e=>e▸.tail _ (mem_r (.head _))) fun hφ=>(List.mem_cons.1 hφ).elim (fun e=>e▸.head _) fun hφ=>.tail _ (mem_r (.tail _ (.tail _ hφ)))) g hg).2)) (fun G1 b1 a ha hnew=>?_)
       conv=>arg 5;whnf
       exact keyF a ⟨G1,b1,ha,hnew⟩
      ·skip
       conv=>arg 5;whnf
       refine meetRun (f:=19) Z1 (min m1 10000).toNat (y0.fsN v++sgF (⟨x0.la,x0.lc,u,c_u,x0.S⟩:Sn) s0) (fun φ hφ=>(show φ∈(rowF (pt u x0.S.length) (cellsS x0.S)::(y0.fsN v++sgF x0 s0)) from (List.mem_append.1 hφ).elim (fun h=>.tail _ (List.mem_append_left _ h)) fun hφ=>(List.mem_cons.1 hφ).elim (fun e=>e▸.tail _ (mem_r (.head _))) fun hφ=>(List.mem_cons.1 hφ).elim (fun e=>e▸.head _) fun hφ=>.tail _ (mem_r (.tail _ (.tail _ hφ))))) rfl (by kernel_rfl) (fun β ρ w' hM'=>hZ1▸RUN1 w' (hM.later hM'.below) (fun φ hφ g hg=>(hM'.fact φ (show φ∈(rowF (pt u x0.S.length) (cellsS x0.S)::(y0.fsN v++sgF x0 s0)) from by exact .tail _ (List.mem_append_left _ hφ)) g hg).2) (fun φ hφ g hg=>(hM'.fact φ (show φ∈(rowF (pt u x0.S.length) (cellsS x0.S)::(y0.fsN v++sgF x0 s0)) from (List.mem_cons.1 hφ).elim (fun e=>e▸.tail _ (mem_r (.head _))) fun hφ=>(List.mem_cons.1 hφ).elim (fun e=>e▸.head _) fun hφ=>.tail _ (mem_r (.tail _ (.tail _ hφ)))) g hg).2)) (fun G1 b1 a ha hnew=>?_)
       conv=>arg 5;whnf
       exact keyF a ⟨G1,b1,ha,hnew⟩
     ·skip
      conv=>arg 5;whnf
      refine meetc (f:=30) (v:=ekV v y0) rfl (by kernel_rfl) (fun β ρ w' hM'=>ownV v y0 w') ?_
      conv=>arg 5;whnf
      refine meetRun (f:=19) Z1 (min m1 10000).toNat (y0.fsN v++sgF (⟨x0.la,x0.lc,u,c_u,x0.S⟩:Sn) s0) (fun φ hφ=>(show φ∈(rowF (pt u x0.S.length) (cellsS x0.S)::(y0.fsN v++sgF x0 s0)) from (List.mem_append.1 hφ).elim (fun h=>.tail _ (List.mem_append_left _ h)) fun hφ=>(List.mem_cons.1 hφ).elim (fun e=>e▸.tail _ (mem_r (.head _))) fun hφ=>(List.mem_cons.1 hφ).elim (fun e=>e▸.head _) fun hφ=>.tail _ (mem_r (.tail _ (.tail _ hφ))))) rfl (by kernel_rfl) (fun β ρ w' hM'=>hZ1▸RUN1 w' (hM.later hM'.below) (fun φ hφ g hg=>(hM'.fact φ (show φ∈(rowF (pt u x0.S.length) (cellsS x0.S)::(y0.fsN v++sgF x0 s0)) from by exact .tail _ (List.mem_append_left _ hφ)) g hg).2) (fun φ hφ g hg=>(hM'.fact φ (show φ∈(rowF (pt u x0.S.length) (cellsS x0.S)::(y0.fsN v++sgF x0 s0)) from (List.mem_cons.1 hφ).elim (fun e=>e▸.tail _ (mem_r (.head _))) fun hφ=>(List.mem_cons.1 hφ).elim (fun e=>e▸.head _) fun hφ=>.tail _ (mem_r (.tail _ (.tail _ hφ)))) g hg).2)) (fun G1 b1 a ha hnew=>?_)
      conv=>arg 5;whnf
      exact keyF a ⟨G1,b1,ha,hnew⟩
    ·skip
     conv=>arg 5;whnf
     refine wp_both ?_ ?_
     ·skip
      conv=>arg 5;whnf
      refine meetc (f:=30) (v:=ekV v y0) rfl (by kernel_rfl) (fun β ρ w' hM'=>ownV v y0 w') ?_
      conv=>arg 5;whnf
      refine wp_both ?_ ?_
      ·skip
       conv=>arg 5;whnf
       refine meetRun (f:=19) Z1 (min m1 10000).toNat (y0.fsN v++sgF (⟨x0.la,x0.lc,u,c_u,x0.S⟩:Sn) s0) (fun φ hφ=>(show φ∈(rowF (pt u x0.S.length) (cellsS x0.S)::(y0.fsN v++sgF x0 s0)) from (List.mem_append.1 hφ).elim (fun h=>.tail _ (List.mem_append_left _ h)) fun hφ=>(List.mem_cons.1 hφ).elim (fun e=>e▸.tail _ (mem_r (.head _))) fun hφ=>(List.mem_cons.1 hφ).elim (fun e=>e▸.head _) fun hφ=>.tail _ (mem_r (.tail _ (.tail _ hφ))))) rfl (by kernel_rfl) (fun β ρ w' hM'=>hZ1▸RUN1 w' (hM.later hM'.below) (fun φ hφ g hg=>(hM'.fact φ (show φ∈(rowF (pt u x0.S.length) (cellsS x0.S)::(y0.fsN v++sgF x0 s0)) from by exact .tail _ (List.mem_append_left _ hφ)) g hg).2) (fun φ hφ g hg=>(hM'.fact φ (show φ∈(rowF (pt u x0.S.length) (cellsS x0.S)::(y0.fsN v++sgF x0 s0)) from (List.mem_cons.1 hφ).elim (fun e=>e▸.tail _ (mem_r (.head _))) fun hφ=>(List.mem_cons.1 hφ).elim (fun e=>e▸.head _) fun hφ=>.tail _ (mem_r (.tail _ (.tail _ hφ)))) g hg).2)) (fun G1 b1 a ha hnew=>?_)
       conv=>arg 5;whnf
       exact keyT a ⟨G1,b1,ha,hnew⟩
      ·skip
       conv=>arg 5;whnf
       refine meetRun (f:=19) Z1 (min m1 10000).toNat (y0.fsN v++sgF (⟨x0.la,x0.lc,u,c_u,x0.S⟩:Sn) s0) (fun φ hφ=>(show φ∈(rowF (pt u x0.S.length) (cellsS x0.S)::(y0.fsN v++sgF x0 s0)) from (List.mem_append.1 hφ).elim (fun h=>.tail _ (List.mem_append_left _ h)) fun hφ=>(List.mem_cons.1 hφ).elim (fun e=>e▸.tail _ (mem_r (.head _))) fun hφ=>(List.mem_cons.1 hφ).elim (fun e=>e▸.head _) fun hφ=>.tail _ (mem_r (.tail _ (.tail _ hφ))))) rfl (by kernel_rfl) (fun β ρ w' hM'=>hZ1▸RUN1 w' (hM.later hM'.below) (fun φ hφ g hg=>(hM'.fact φ (show φ∈(rowF (pt u x0.S.length) (cellsS x0.S)::(y0.fsN v++sgF x0 s0)) from by exact .tail _ (List.mem_append_left _ hφ)) g hg).2) (fun φ hφ g hg=>(hM'.fact φ (show φ∈(rowF (pt u x0.S.length) (cellsS x0.S)::(y0.fsN v++sgF x0 s0)) from (List.mem_cons.1 hφ).elim (fun e=>e▸.tail _ (mem_r (.head _))) fun hφ=>(List.mem_cons.1 hφ).elim (fun e=>e▸.head _) fun hφ=>.tail _ (mem_r (.tail _ (.tail _ hφ)))) g hg).2)) (fun G1 b1 a ha hnew=>?_)
       conv=>arg 5;whnf
       exact keyT a ⟨G1,b1,ha,hnew⟩
     ·skip
      conv=>arg 5;whnf
      refine meetc (f:=30) (v:=ekV v y0) rfl (by kernel_rfl) (fun β ρ w' hM'=>ownV v y0 w') ?_
      conv=>arg 5;whnf
      refine meetRun (f:=19) Z1 (min m1 10000).toNat (y0.fsN v++sgF (⟨x0.la,x0.lc,u,c_u,x0.S⟩:Sn) s0) (fun φ hφ=>(show φ∈(rowF (pt u x0.S.length) (cellsS x0.S)::(y0.fsN v++sgF x0 s0)) from (List.mem_append.1 hφ).elim (fun h=>.tail _ (List.mem_append_left _ h)) fun hφ=>(List.mem_cons.1 hφ).elim (fun e=>e▸.tail _ (mem_r (.head _))) fun hφ=>(List.mem_cons.1 hφ).elim (fun e=>e▸.head _) fun hφ=>.tail _ (mem_r (.tail _ (.tail _ hφ))))) rfl (by kernel_rfl) (fun β ρ w' hM'=>hZ1▸RUN1 w' (hM.later hM'.below) (fun φ hφ g hg=>(hM'.fact φ (show φ∈(rowF (pt u x0.S.length) (cellsS x0.S)::(y0.fsN v++sgF x0 s0)) from by exact .tail _ (List.mem_append_left _ hφ)) g hg).2) (fun φ hφ g hg=>(hM'.fact φ (show φ∈(rowF (pt u x0.S.length) (cellsS x0.S)::(y0.fsN v++sgF x0 s0)) from (List.mem_cons.1 hφ).elim (fun e=>e▸.tail _ (mem_r (.head _))) fun hφ=>(List.mem_cons.1 hφ).elim (fun e=>e▸.head _) fun hφ=>.tail _ (mem_r (.tail _ (.tail _ hφ)))) g hg).2)) (fun G1 b1 a ha hnew=>?_)
      conv=>arg 5;whnf
      exact keyT a ⟨G1,b1,ha,hnew⟩
   ·intro a ⟨G1,b1,ha,hnew⟩
    obtain ⟨hy1,hx1',he1⟩:=ha
    have hy1:a.y.ok Z1.v.P:=hy1
    have hx1':Sgo a.x Z1.s:=hx1'
    have he1:Sl a.ea Z1.ev.length a.ec:=he1
    subst hB3
    refine cut_seq rfl ?_
    intro B4 hB4
    conv=>arg 5;whnf
    refine wp_must ⟨by decide,by decide⟩ ?_
    conv=>arg 5;whnf
    refine wp_must ⟨by decide,by decide⟩ ?_
    conv=>arg 5;whnf
    refine meetRun (f:=19) Z2 (min m2 10000).toNat (a.y.fsN Z1.v++sgF a.x Z1.s) (fun φ hφ=>(show φ∈(a.fs ⟨Z1.v,Z1.s,Z1.ev,false⟩++(rowF (pt u x0.S.length) (cellsS x0.S)::(y0.fsN v++sgF x0 s0))) from List.mem_append_left _ (.tail _ hφ))) rfl (by kernel_rfl) (fun β ρ w' hM'=>hZ2▸RUN2 Z1 a.y a.x hy1 hx1' G1 w' (hM.later hM'.below) (fun φ hφ g hg=>(hM'.fact φ (show φ∈(a.fs ⟨Z1.v,Z1.s,Z1.ev,false⟩++(rowF (pt u x0.S.length) (cellsS x0.S)::(y0.fsN v++sgF x0 s0))) from List.mem_append_left _ (.tail _ (List.mem_append_left _ hφ))) g hg).2) (fun φ hφ g hg=>(hM'.fact φ (show φ∈(a.fs ⟨Z1.v,Z1.s,Z1.ev,false⟩++(rowF (pt u x0.S.length) (cellsS x0.S)::(y0.fsN v++sgF x0 s0))) from List.mem_append_left _ (.tail _ (List.mem_append_right _ hφ))) g hg).2)) (fun G2 b2 a2 ha2 hnew2=>?_)
    conv=>arg 5;whnf
    subst hB4
    refine cut_seq rfl ?_
    intro B5 hB5
    obtain ⟨hy2,hx2,he2⟩:=ha2
    have hy2:a2.y.ok Z2.v.P:=hy2
    have hx2:Sgo a2.x Z2.s:=hx2
    have he2:Sl a2.ea Z2.ev.length a2.ec:=he2
    apply wp_keep2 (A:=fun a3=>Gd Z2.v Z2.s∧((Z1.ev++Z2.ev).length≤(min (m1+m2) 10000).toNat*1000∧0≤Z1.n+Z2.n∧Z1.n+Z2.n≤(min (m1+m2) 10000).toNat)∧a3.ok ⟨Z2.v,Z2.s,Z1.ev++Z2.ev,false⟩)
    ·intro keyF3 keyT3
     conv=>arg 5;whnf
     refine wp_must ⟨by decide,by decide⟩ ?_
     conv=>arg 5;whnf
     refine wp_must ⟨by decide,by decide⟩ ?_
     conv=>arg 5;whnf
     refine wp_must ⟨by decide,by decide⟩ ?_
     conv=>arg 5;whnf
     refine wp_must ⟨by omega,by omega⟩ ?_
     conv=>arg 5;whnf
     refine wp_both ?_ (wp_both ?_ ?_)
     ·skip
      conv=>arg 5;whnf
      refine meetc (f:=30) (v:=ekV v y0) rfl (by kernel_rfl) (fun β ρ w' hM'=>ownV v y0 w') ?_
      conv=>arg 5;whnf
      refine wp_both ?_ (wp_both ?_ ?_)
      ·skip
       conv=>arg 5;whnf
       refine meetRun (f:=19) (⟨Z2.v,Z2.s,Z1.ev++Z2.ev,Z1.n+Z2.n⟩:evict.Rz) (min (m1+m2) 10000).toNat (y0.fsN v++sgF (⟨x0.la,x0.lc,u,c_u,x0.S⟩:Sn) s0) (fun φ hφ=>(show φ∈(a2.fs ⟨Z2.v,Z2.s,Z2.ev,false⟩++(a.fs ⟨Z1.v,Z1.s,Z1.ev,false⟩++(rowF (pt u x0.S.length) (cellsS x0.S)::(y0.fsN v++sgF x0 s0)))) from mem_r (mem_r ((List.mem_append.1 hφ).elim (fun h=>.tail _ (List.mem_append_left _ h)) fun hφ=>(List.mem_cons.1 hφ).elim (fun e=>e▸.tail _ (mem_r (.head _))) fun hφ=>(List.mem_cons.1 hφ).elim (fun e=>e▸.head _) fun hφ=>.tail _ (mem_r (.tail _ (.tail _ hφ))))))) rfl (by kernel_rfl) (fun β ρ w' hM'=>hZ3▸RUN3 w' (hM.later hM'.below) (fun φ hφ g hg=>(hM'.fact φ (show φ∈(a2.fs ⟨Z2.v,Z2.s,Z2.ev,false⟩++(a.fs ⟨Z1.v,Z1.s,Z1.ev,false⟩++(rowF (pt u x0.S.length) (cellsS x0.S)::(y0.fsN v++sgF x0 s0)))) from mem_r (mem_r (.tail _ (List.mem_append_left _ hφ)))) g hg).2) (fun φ hφ g hg=>(hM'.fact φ (show φ∈(a2.fs ⟨Z2.v,Z2.s,Z2.ev,false⟩++(a.fs ⟨Z1.v,Z1.s,Z1.ev,false⟩++(rowF (pt u x0.S.length) (cellsS x0.S)::(y0.fsN v++sgF x0 s0)))) from mem_r (mem_r ((List.mem_cons.1 hφ).elim (fun e=>e▸.tail _ (mem_r (.head _))) fun hφ=>(List.mem_cons.1 hφ).elim (fun e=>e▸.head _) fun hφ=>.tail _ (mem_r (.tail _ (.tail _ hφ)))))) g hg).2)) (fun G3 b3 a3 ha3 hnew3=>?_)
       conv=>arg 5;whnf
       refine wp_both ?_ ?_
       ·skip
        conv=>arg 5;whnf
        exact keyF3 a3 ⟨G3,b3,ha3⟩
       ·skip
        conv=>arg 5;whnf
        exact keyT3 a3 ⟨G3,b3,ha3⟩
      ·skip
       conv=>arg 5;whnf
       refine wp_both ?_ ?_
       ·skip
        conv=>arg 5;whnf
        refine meetRun (f:=19) (⟨Z2.v,Z2.s,Z1.ev++Z2.ev,Z1.n+Z2.n⟩:evict.Rz) (min (m1+m2) 10000).toNat (y0.fsN v++sgF (⟨x0.la,x0.lc,u,c_u,x0.S⟩:Sn) s0) (fun φ hφ=>(show φ∈(a2.fs ⟨Z2.v,Z2.s,Z2.ev,false⟩++(a.fs ⟨Z1.v,Z1.s,Z1.ev,false⟩++(rowF (pt u x0.S.length) (cellsS x0.S)::(y0.fsN v++sgF x0 s0)))) from mem_r (mem_r ((List.mem_append.1 hφ).elim (fun h=>.tail _ (List.mem_append_left _ h)) fun hφ=>(List.mem_cons.1 hφ).elim (fun e=>e▸.tail _ (mem_r (.head _))) fun hφ=>(List.mem_cons.1 hφ).elim (fun e=>e▸.head _) fun hφ=>.tail _ (mem_r (.tail _ (.tail _ hφ))))))) rfl (by kernel_rfl) (fun β ρ w' hM'=>hZ3▸RUN3 w' (hM.later hM'.below) (fun φ hφ g hg=>(hM'.fact φ (show φ∈(a2.fs ⟨Z2.v,Z2.s,Z2.ev,false⟩++(a.fs ⟨Z1.v,Z1.s,Z1.ev,false⟩++(rowF (pt u x0.S.length) (cellsS x0.S)::(y0.fsN v++sgF x0 s0)))) from mem_r (mem_r (.tail _ (List.mem_append_left _ hφ)))) g hg).2) (fun φ hφ g hg=>(hM'.fact φ (show φ∈(a2.fs ⟨Z2.v,Z2.s,Z2.ev,false⟩++(a.fs ⟨Z1.v,Z1.s,Z1.ev,false⟩++(rowF (pt u x0.S.length) (cellsS x0.S)::(y0.fsN v++sgF x0 s0)))) from mem_r (mem_r ((List.mem_cons.1 hφ).elim (fun e=>e▸.tail _ (mem_r (.head _))) fun hφ=>(List.mem_cons.1 hφ).elim (fun e=>e▸.head _) fun hφ=>.tail _ (mem_r (.tail _ (.tail _ hφ)))))) g hg).2)) (fun G3 b3 a3 ha3 hnew3=>?_)
        conv=>arg 5;whnf
        exact keyF3 a3 ⟨G3,b3,ha3⟩
       ·skip
        conv=>arg 5;whnf
        refine meetRun (f:=19) (⟨Z2.v,Z2.s,Z1.ev++Z2.ev,Z1.n+Z2.n⟩:evict.Rz) (min (m1+m2) 10000).toNat (y0.fsN v++sgF (⟨x0.la,x0.lc,u,c_u,x0.S⟩:Sn) s0) (fun φ hφ=>(show φ∈(a2.fs ⟨Z2.v,Z2.s,Z2.ev,false⟩++(a.fs ⟨Z1.v,Z1.s,Z1.ev,false⟩++(rowF (pt u x0.S.length) (cellsS x0.S)::(y0.fsN v++sgF x0 s0)))) from mem_r (mem_r ((List.mem_append.1 hφ).elim (fun h=>.tail _ (List.mem_append_left _ h)) fun hφ=>(List.mem_cons.1 hφ).elim (fun e=>e▸.tail _ (mem_r (.head _))) fun hφ=>(List.mem_cons.1 hφ).elim (fun e=>e▸.head _) fun hφ=>.tail _ (mem_r (.tail _ (.tail _ hφ))))))) rfl (by kernel_rfl) (fun β ρ w' hM'=>hZ3▸RUN3 w' (hM.later hM'.below) (fun φ hφ g hg=>(hM'.fact φ (show φ∈(a2.fs ⟨Z2.v,Z2.s,Z2.ev,false⟩++(a.fs ⟨Z1.v,Z1.s,Z1.ev,false⟩++(rowF (pt u x0.S.length) (cellsS x0.S)::(y0.fsN v++sgF x0 s0)))) from mem_r (mem_r (.tail _ (List.mem_append_left _ hφ)))) g hg).2) (fun φ hφ g hg=>(hM'.fact φ (show φ∈(a2.fs ⟨Z2.v,Z2.s,Z2.ev,false⟩++(a.fs ⟨Z1.v,Z1.s,Z1.ev,false⟩++(rowF (pt u x0.S.length) (cellsS x0.S)::(y0.fsN v++sgF x0 s0)))) from mem_r (mem_r ((List.mem_cons.1 hφ).elim (fun e=>e▸.tail _ (mem_r (.head _))) fun hφ=>(List.mem_cons.1 hφ).elim (fun e=>e▸.head _) fun hφ=>.tail _ (mem_r (.tail _ (.tail _ hφ)))))) g hg).2)) (fun G3 b3 a3 ha3 hnew3=>?_)
        conv=>arg 5;whnf
        exact keyF3 a3 ⟨G3,b3,ha3⟩
      ·skip
       conv=>arg 5;whnf
       refine wp_both ?_ ?_
       ·skip
        conv=>arg 5;whnf
        refine meetRun (f:=19) (⟨Z2.v,Z2.s,Z1.ev++Z2.ev,Z1.n+Z2.n⟩:evict.Rz) (min (m1+m2) 10000).toNat (y0.fsN v++sgF (⟨x0.la,x0.lc,u,c_u,x0.S⟩:Sn) s0) (fun φ hφ=>(show φ∈(a2.fs ⟨Z2.v,Z2.s,Z2.ev,false⟩++(a.fs ⟨Z1.v,Z1.s,Z1.ev,false⟩++(rowF (pt u x0.S.length) (cellsS x0.S)::(y0.fsN v++sgF x0 s0)))) from mem_r (mem_r ((List.mem_append.1 hφ).elim (fun h=>.tail _ (List.mem_append_left _ h)) fun hφ=>(List.mem_cons.1 hφ).elim (fun e=>e▸.tail _ (mem_r (.head _))) fun hφ=>(List.mem_cons.1 hφ).elim (fun e=>e▸.head _) fun hφ=>.tail _ (mem_r (.tail _ (.tail _ hφ))))))) rfl (by kernel_rfl) (fun β ρ w' hM'=>hZ3▸RUN3 w' (hM.later hM'.below) (fun φ hφ g hg=>(hM'.fact φ (show φ∈(a2.fs ⟨Z2.v,Z2.s,Z2.ev,false⟩++(a.fs ⟨Z1.v,Z1.s,Z1.ev,false⟩++(rowF (pt u x0.S.length) (cellsS x0.S)::(y0.fsN v++sgF x0 s0)))) from mem_r (mem_r (.tail _ (List.mem_append_left _ hφ)))) g hg).2) (fun φ hφ g hg=>(hM'.fact φ (show φ∈(a2.fs ⟨Z2.v,Z2.s,Z2.ev,false⟩++(a.fs ⟨Z1.v,Z1.s,Z1.ev,false⟩++(rowF (pt u x0.S.length) (cellsS x0.S)::(y0.fsN v++sgF x0 s0)))) from mem_r (mem_r ((List.mem_cons.1 hφ).elim (fun e=>e▸.tail _ (mem_r (.head _))) fun hφ=>(List.mem_cons.1 hφ).elim (fun e=>e▸.head _) fun hφ=>.tail _ (mem_r (.tail _ (.tail _ hφ)))))) g hg).2)) (fun G3 b3 a3 ha3 hnew3=>?_)
        conv=>arg 5;whnf
        exact keyT3 a3 ⟨G3,b3,ha3⟩
       ·skip
        conv=>arg 5;whnf
        refine meetRun (f:=19) (⟨Z2.v,Z2.s,Z1.ev++Z2.ev,Z1.n+Z2.n⟩:evict.Rz) (min (m1+m2) 10000).toNat (y0.fsN v++sgF (⟨x0.la,x0.lc,u,c_u,x0.S⟩:Sn) s0) (fun φ hφ=>(show φ∈(a2.fs ⟨Z2.v,Z2.s,Z2.ev,false⟩++(a.fs ⟨Z1.v,Z1.s,Z1.ev,false⟩++(rowF (pt u x0.S.length) (cellsS x0.S)::(y0.fsN v++sgF x0 s0)))) from mem_r (mem_r ((List.mem_append.1 hφ).elim (fun h=>.tail _ (List.mem_append_left _ h)) fun hφ=>(List.mem_cons.1 hφ).elim (fun e=>e▸.tail _ (mem_r (.head _))) fun hφ=>(List.mem_cons.1 hφ).elim (fun e=>e▸.head _) fun hφ=>.tail _ (mem_r (.tail _ (.tail _ hφ))))))) rfl (by kernel_rfl) (fun β ρ w' hM'=>hZ3▸RUN3 w' (hM.later hM'.below) (fun φ hφ g hg=>(hM'.fact φ (show φ∈(a2.fs ⟨Z2.v,Z2.s,Z2.ev,false⟩++(a.fs ⟨Z1.v,Z1.s,Z1.ev,false⟩++(rowF (pt u x0.S.length) (cellsS x0.S)::(y0.fsN v++sgF x0 s0)))) from mem_r (mem_r (.tail _ (List.mem_append_left _ hφ)))) g hg).2) (fun φ hφ g hg=>(hM'.fact φ (show φ∈(a2.fs ⟨Z2.v,Z2.s,Z2.ev,false⟩++(a.fs ⟨Z1.v,Z1.s,Z1.ev,false⟩++(rowF (pt u x0.S.length) (cellsS x0.S)::(y0.fsN v++sgF x0 s0)))) from mem_r (mem_r ((List.mem_cons.1 hφ).elim (fun e=>e▸.tail _ (mem_r (.head _))) fun hφ=>(List.mem_cons.1 hφ).elim (fun e=>e▸.head _) fun hφ=>.tail _ (mem_r (.tail _ (.tail _ hφ)))))) g hg).2)) (fun G3 b3 a3 ha3 hnew3=>?_)
        conv=>arg 5;whnf
        exact keyT3 a3 ⟨G3,b3,ha3⟩
     ·skip
      conv=>arg 5;whnf
      refine wp_both ?_ ?_
      ·skip
       conv=>arg 5;whnf
       refine meetc (f:=30) (v:=ekV v y0) rfl (by kernel_rfl) (fun β ρ w' hM'=>ownV v y0 w') ?_
       conv=>arg 5;whnf
       refine wp_both ?_ ?_
       ·skip
        conv=>arg 5;whnf
        refine meetRun (f:=19) (⟨Z2.v,Z2.s,Z1.ev++Z2.ev,Z1.n+Z2.n⟩:evict.Rz) (min (m1+m2) 10000).toNat (y0.fsN v++sgF (⟨x0.la,x0.lc,u,c_u,x0.S⟩:Sn) s0) (fun φ hφ=>(show φ∈(a2.fs ⟨Z2.v,Z2.s,Z2.ev,false⟩++(a.fs ⟨Z1.v,Z1.s,Z1.ev,false⟩++(rowF (pt u x0.S.length) (cellsS x0.S)::(y0.fsN v++sgF x0 s0)))) from mem_r (mem_r ((List.mem_append.1 hφ).elim (fun h=>.tail _ (List.mem_append_left _ h)) fun hφ=>(List.mem_cons.1 hφ).elim (fun e=>e▸.tail _ (mem_r (.head _))) fun hφ=>(List.mem_cons.1 hφ).elim (fun e=>e▸.head _) fun hφ=>.tail _ (mem_r (.tail _ (.tail _ hφ))))))) rfl (by kernel_rfl) (fun β ρ w' hM'=>hZ3▸RUN3 w' (hM.later hM'.below) (fun φ hφ g hg=>(hM'.fact φ (show φ∈(a2.fs ⟨Z2.v,Z2.s,Z2.ev,false⟩++(a.fs ⟨Z1.v,Z1.s,Z1.ev,false⟩++(rowF (pt u x0.S.length) (cellsS x0.S)::(y0.fsN v++sgF x0 s0)))) from mem_r (mem_r (.tail _ (List.mem_append_left _ hφ)))) g hg).2) (fun φ hφ g hg=>(hM'.fact φ (show φ∈(a2.fs ⟨Z2.v,Z2.s,Z2.ev,false⟩++(a.fs ⟨Z1.v,Z1.s,Z1.ev,false⟩++(rowF (pt u x0.S.length) (cellsS x0.S)::(y0.fsN v++sgF x0 s0)))) from mem_r (mem_r ((List.mem_cons.1 hφ).elim (fun e=>e▸.tail _ (mem_r (.head _))) fun hφ=>(List.mem_cons.1 hφ).elim (fun e=>e▸.head _) fun hφ=>.tail _ (mem_r (.tail _ (.tail _ hφ)))))) g hg).2)) (fun G3 b3 a3 ha3 hnew3=>?_)
        conv=>arg 5;whnf
        exact keyF3 a3 ⟨G3,b3,ha3⟩
       ·skip
        conv=>arg 5;whnf
        refine meetRun (f:=19) (⟨Z2.v,Z2.s,Z1.ev++Z2.ev,Z1.n+Z2.n⟩:evict.Rz) (min (m1+m2) 10000).toNat (y0.fsN v++sgF (⟨x0.la,x0.lc,u,c_u,x0.S⟩:Sn) s0) (fun φ hφ=>(show φ∈(a2.fs ⟨Z2.v,Z2.s,Z2.ev,false⟩++(a.fs ⟨Z1.v,Z1.s,Z1.ev,false⟩++(rowF (pt u x0.S.length) (cellsS x0.S)::(y0.fsN v++sgF x0 s0)))) from mem_r (mem_r ((List.mem_append.1 hφ).elim (fun h=>.tail _ (List.mem_append_left _ h)) fun hφ=>(List.mem_cons.1 hφ).elim (fun e=>e▸.tail _ (mem_r (.head _))) fun hφ=>(List.mem_cons.1 hφ).elim (fun e=>e▸.head _) fun hφ=>.tail _ (mem_r (.tail _ (.tail _ hφ))))))) rfl (by kernel_rfl) (fun β ρ w' hM'=>hZ3▸RUN3 w' (hM.later hM'.below) (fun φ hφ g hg=>(hM'.fact φ (show φ∈(a2.fs ⟨Z2.v,Z2.s,Z2.ev,false⟩++(a.fs ⟨Z1.v,Z1.s,Z1.ev,false⟩++(rowF (pt u x0.S.length) (cellsS x0.S)::(y0.fsN v++sgF x0 s0)))) from mem_r (mem_r (.tail _ (List.mem_append_left _ hφ)))) g hg).2) (fun φ hφ g hg=>(hM'.fact φ (show φ∈(a2.fs ⟨Z2.v,Z2.s,Z2.ev,false⟩++(a.fs ⟨Z1.v,Z1.s,Z1.ev,false⟩++(rowF (pt u x0.S.length) (cellsS x0.S)::(y0.fsN v++sgF x0 s0)))) from mem_r (mem_r ((List.mem_cons.1 hφ).elim (fun e=>e▸.tail _ (mem_r (.head _))) fun hφ=>(List.mem_cons.1 hφ).elim (fun e=>e▸.head _) fun hφ=>.tail _ (mem_r (.tail _ (.tail _ hφ)))))) g hg).2)) (fun G3 b3 a3 ha3 hnew3=>?_)
        conv=>arg 5;whnf
        exact keyF3 a3 ⟨G3,b3,ha3⟩
      ·skip
       conv=>arg 5;whnf
       refine meetc (f:=30) (v:=ekV v y0) rfl (by kernel_rfl) (fun β ρ w' hM'=>ownV v y0 w') ?_
       conv=>arg 5;whnf
       refine meetRun (f:=19) (⟨Z2.v,Z2.s,Z1.ev++Z2.ev,Z1.n+Z2.n⟩:evict.Rz) (min (m1+m2) 10000).toNat (y0.fsN v++sgF (⟨x0.la,x0.lc,u,c_u,x0.S⟩:Sn) s0) (fun φ hφ=>(show φ∈(a2.fs ⟨Z2.v,Z2.s,Z2.ev,false⟩++(a.fs ⟨Z1.v,Z1.s,Z1.ev,false⟩++(rowF (pt u x0.S.length) (cellsS x0.S)::(y0.fsN v++sgF x0 s0)))) from mem_r (mem_r ((List.mem_append.1 hφ).elim (fun h=>.tail _ (List.mem_append_left _ h)) fun hφ=>(List.mem_cons.1 hφ).elim (fun e=>e▸.tail _ (mem_r (.head _))) fun hφ=>(List.mem_cons.1 hφ).elim (fun e=>e▸.head _) fun hφ=>.tail _ (mem_r (.tail _ (.tail _ hφ))))))) rfl (by kernel_rfl) (fun β ρ w' hM'=>hZ3▸RUN3 w' (hM.later hM'.below) (fun φ hφ g hg=>(hM'.fact φ (show φ∈(a2.fs ⟨Z2.v,Z2.s,Z2.ev,false⟩++(a.fs ⟨Z1.v,Z1.s,Z1.ev,false⟩++(rowF (pt u x0.S.length) (cellsS x0.S)::(y0.fsN v++sgF x0 s0)))) from mem_r (mem_r (.tail _ (List.mem_append_left _ hφ)))) g hg).2) (fun φ hφ g hg=>(hM'.fact φ (show φ∈(a2.fs ⟨Z2.v,Z2.s,Z2.ev,false⟩++(a.fs ⟨Z1.v,Z1.s,Z1.ev,false⟩++(rowF (pt u x0.S.length) (cellsS x0.S)::(y0.fsN v++sgF x0 s0)))) from mem_r (mem_r ((List.mem_cons.1 hφ).elim (fun e=>e▸.tail _ (mem_r (.head _))) fun hφ=>(List.mem_cons.1 hφ).elim (fun e=>e▸.head _) fun hφ=>.tail _ (mem_r (.tail _ (.tail _ hφ)))))) g hg).2)) (fun G3 b3 a3 ha3 hnew3=>?_)
       conv=>arg 5;whnf
       exact keyF3 a3 ⟨G3,b3,ha3⟩
     ·skip
      conv=>arg 5;whnf
      refine wp_both ?_ ?_
      ·skip
       conv=>arg 5;whnf
       refine meetc (f:=30) (v:=ekV v y0) rfl (by kernel_rfl) (fun β ρ w' hM'=>ownV v y0 w') ?_
       conv=>arg 5;whnf
       refine wp_both ?_ ?_
       ·skip
        conv=>arg 5;whnf
        refine meetRun (f:=19) (⟨Z2.v,Z2.s,Z1.ev++Z2.ev,Z1.n+Z2.n⟩:evict.Rz) (min (m1+m2) 10000).toNat (y0.fsN v++sgF (⟨x0.la,x0.lc,u,c_u,x0.S⟩:Sn) s0) (fun φ hφ=>(show φ∈(a2.fs ⟨Z2.v,Z2.s,Z2.ev,false⟩++(a.fs ⟨Z1.v,Z1.s,Z1.ev,false⟩++(rowF (pt u x0.S.length) (cellsS x0.S)::(y0.fsN v++sgF x0 s0)))) from mem_r (mem_r ((List.mem_append.1 hφ).elim (fun h=>.tail _ (List.mem_append_left _ h)) fun hφ=>(List.mem_cons.1 hφ).elim (fun e=>e▸.tail _ (mem_r (.head _))) fun hφ=>(List.mem_cons.1 hφ).elim (fun e=>e▸.head _) fun hφ=>.tail _ (mem_r (.tail _ (.tail _ hφ))))))) rfl (by kernel_rfl) (fun β ρ w' hM'=>hZ3▸RUN3 w' (hM.later hM'.below) (fun φ hφ g hg=>(hM'.fact φ (show φ∈(a2.fs ⟨Z2.v,Z2.s,Z2.ev,false⟩++(a.fs ⟨Z1.v,Z1.s,Z1.ev,false⟩++(rowF (pt u x0.S.length) (cellsS x0.S)::(y0.fsN v++sgF x0 s0)))) from mem_r (mem_r (.tail _ (List.mem_append_left _ hφ)))) g hg).2) (fun φ hφ g hg=>(hM'.fact φ (show φ∈(a2.fs ⟨Z2.v,Z2.s,Z2.ev,false⟩++(a.fs ⟨Z1.v,Z1.s,Z1.ev,false⟩++(rowF (pt u x0.S.length) (cellsS x0.S)::(y0.fsN v++sgF x0 s0)))) from mem_r (mem_r ((List.mem_cons.1 hφ).elim (fun e=>e▸.tail _ (mem_r (.head _))) fun hφ=>(List.mem_cons.1 hφ).elim (fun e=>e▸.head _) fun hφ=>.tail _ (mem_r (.tail _ (.tail _ hφ)))))) g hg).2)) (fun G3 b3 a3 ha3 hnew3=>?_)
        conv=>arg 5;whnf
        exact keyT3 a3 ⟨G3,b3,ha3⟩
       ·skip
        conv=>arg 5;whnf
        refine meetRun (f:=19) (⟨Z2.v,Z2.s,Z1.ev++Z2.ev,Z1.n+Z2.n⟩:evict.Rz) (min (m1+m2) 10000).toNat (y0.fsN v++sgF (⟨x0.la,x0.lc,u,c_u,x0.S⟩:Sn) s0) (fun φ hφ=>(show φ∈(a2.fs ⟨Z2.v,Z2.s,Z2.ev,false⟩++(a.fs ⟨Z1.v,Z1.s,Z1.ev,false⟩++(rowF (pt u x0.S.length) (cellsS x0.S)::(y0.fsN v++sgF x0 s0)))) from mem_r (mem_r ((List.mem_append.1 hφ).elim (fun h=>.tail _ (List.mem_append_left _ h)) fun hφ=>(List.mem_cons.1 hφ).elim (fun e=>e▸.tail _ (mem_r (.head _))) fun hφ=>(List.mem_cons.1 hφ).elim (fun e=>e▸.head _) fun hφ=>.tail _ (mem_r (.tail _ (.tail _ hφ))))))) rfl (by kernel_rfl) (fun β ρ w' hM'=>hZ3▸RUN3 w' (hM.later hM'.below) (fun φ hφ g hg=>(hM'.fact φ (show φ∈(a2.fs ⟨Z2.v,Z2.s,Z2.ev,false⟩++(a.fs ⟨Z1.v,Z1.s,Z1.ev,false⟩++(rowF (pt u x0.S.length) (cellsS x0.S)::(y0.fsN v++sgF x0 s0)))) from mem_r (mem_r (.tail _ (List.mem_append_left _ hφ)))) g hg).2) (fun φ hφ g hg=>(hM'.fact φ (show φ∈(a2.fs ⟨Z2.v,Z2.s,Z2.ev,false⟩++(a.fs ⟨Z1.v,Z1.s,Z1.ev,false⟩++(rowF (pt u x0.S.length) (cellsS x0.S)::(y0.fsN v++sgF x0 s0)))) from mem_r (mem_r ((List.mem_cons.1 hφ).elim (fun e=>e▸.tail _ (mem_r (.head _))) fun hφ=>(List.mem_cons.1 hφ).elim (fun e=>e▸.head _) fun hφ=>.tail _ (mem_r (.tail _ (.tail _ hφ)))))) g hg).2)) (fun G3 b3 a3 ha3 hnew3=>?_)
        conv=>arg 5;whnf
        exact keyT3 a3 ⟨G3,b3,ha3⟩
      ·skip
       conv=>arg 5;whnf
       refine meetc (f:=30) (v:=ekV v y0) rfl (by kernel_rfl) (fun β ρ w' hM'=>ownV v y0 w') ?_
       conv=>arg 5;whnf
       refine meetRun (f:=19) (⟨Z2.v,Z2.s,Z1.ev++Z2.ev,Z1.n+Z2.n⟩:evict.Rz) (min (m1+m2) 10000).toNat (y0.fsN v++sgF (⟨x0.la,x0.lc,u,c_u,x0.S⟩:Sn) s0) (fun φ hφ=>(show φ∈(a2.fs ⟨Z2.v,Z2.s,Z2.ev,false⟩++(a.fs ⟨Z1.v,Z1.s,Z1.ev,false⟩++(rowF (pt u x0.S.length) (cellsS x0.S)::(y0.fsN v++sgF x0 s0)))) from mem_r (mem_r ((List.mem_append.1 hφ).elim (fun h=>.tail _ (List.mem_append_left _ h)) fun hφ=>(List.mem_cons.1 hφ).elim (fun e=>e▸.tail _ (mem_r (.head _))) fun hφ=>(List.mem_cons.1 hφ).elim (fun e=>e▸.head _) fun hφ=>.tail _ (mem_r (.tail _ (.tail _ hφ))))))) rfl (by kernel_rfl) (fun β ρ w' hM'=>hZ3▸RUN3 w' (hM.later hM'.below) (fun φ hφ g hg=>(hM'.fact φ (show φ∈(a2.fs ⟨Z2.v,Z2.s,Z2.ev,false⟩++(a.fs ⟨Z1.v,Z1.s,Z1.ev,false⟩++(rowF (pt u x0.S.length) (cellsS x0.S)::(y0.fsN v++sgF x0 s0)))) from mem_r (mem_r (.tail _ (List.mem_append_left _ hφ)))) g hg).2) (fun φ hφ g hg=>(hM'.fact φ (show φ∈(a2.fs ⟨Z2.v,Z2.s,Z2.ev,false⟩++(a.fs ⟨Z1.v,Z1.s,Z1.ev,false⟩++(rowF (pt u x0.S.length) (cellsS x0.S)::(y0.fsN v++sgF x0 s0)))) from mem_r (mem_r ((List.mem_cons.1 hφ).elim (fun e=>e▸.tail _ (mem_r (.head _))) fun hφ=>(List.mem_cons.1 hφ).elim (fun e=>e▸.head _) fun hφ=>.tail _ (mem_r (.tail _ (.tail _ hφ)))))) g hg).2)) (fun G3 b3 a3 ha3 hnew3=>?_)
       conv=>arg 5;whnf
       exact keyT3 a3 ⟨G3,b3,ha3⟩
    ·intro a3 ⟨G3,b3,ha3⟩
     obtain ⟨hy3,hx3,he3'⟩:=ha3
     have hy3:a3.y.ok Z2.v.P:=hy3
     have hx3:Sgo a3.x Z2.s:=hx3
     have he3':Sl a3.ea (Z1.ev++Z2.ev).length a3.ec:=he3'
     subst hB5
     have EVS:∀(n:Nat) (e:Option Addr) (c_e:Nat) (w':World),n=(Z1.ev++Z2.ev).length→Sl e n c_e→At w' e (cellsE Z1.ev++cellsE Z2.ev)→At w' (pt a3.ea (Z1.ev++Z2.ev).length) (cellsE (Z1.ev++Z2.ev))→Calls Tryz.prog 24 (List.toArray [.slice e n c_e,.slice a3.ea (Z1.ev++Z2.ev).length a3.ec]) w' fun e' w''=>e'=.returned (.bool true)∧Below w'.heap.size w' w'':=fun n e c_e w' hn hs hr hr2=>by
      subst hn
      rw [← cellsE_app] at hr
      exact revents (Z1.ev++Z2.ev) e c_e a3.ea a3.ec w' hs (at_pt _ hr) he3' hr2
     conv=>arg 5;whnf
     refine wp_rows (cellsE Z1.ev) (by rw [cellsE_length]) (cellsE_one _) (fun β ρ w' hM' ad had j uu hu=>?_) ?_
     ·have h4:=hM'.at_ (show rowF (pt a.ea Z1.ev.length) (cellsE Z1.ev)∈(a3.fs ⟨Z2.v,Z2.s,Z1.ev++Z2.ev,false⟩++(a2.fs ⟨Z2.v,Z2.s,Z2.ev,false⟩++(a.fs ⟨Z1.v,Z1.s,Z1.ev,false⟩++(rowF (pt u x0.S.length) (cellsS x0.S)::(y0.fsN v++sgF x0 s0))))) from mem_r (mem_r (List.mem_append_left _ (.head _))))
      rw [had] at h4
      rw [pt_pos (k:=0) (by have:=(List.getElem?_eq_some_iff.1 hu).1;rw [cellsE_length] at this;omega)] at h4
      exact h4.cell hu
     conv=>arg 5;whnf
     refine wp_must ⟨by show 0+Z1.ev.length≤maxLen;unfold maxLen;omega,by show (0+Z1.ev.length)*72≤140737488355328;omega,fun h=>he1.2.2 h⟩ ?_
     conv=>arg 5;whnf
     refine wp_rows (cellsE Z2.ev) (by rw [cellsE_length]) (cellsE_one _) (fun β ρ w' hM' ad had j uu hu=>?_) ?_
     ·have h4:=hM'.at_ (show rowF (pt a2.ea Z2.ev.length) (cellsE Z2.ev)∈(a3.fs ⟨Z2.v,Z2.s,Z1.ev++Z2.ev,false⟩++(a2.fs ⟨Z2.v,Z2.s,Z2.ev,false⟩++(a.fs ⟨Z1.v,Z1.s,Z1.ev,false⟩++(rowF (pt u x0.S.length) (cellsS x0.S)::(y0.fsN v++sgF x0 s0))))) from mem_r (List.mem_append_left _ (.head _)))
      rw [had] at h4
      rw [pt_pos (k:=0) (by have:=(List.getElem?_eq_some_iff.1 hu).1;rw [cellsE_length] at this;omega)] at h4
      exact h4.cell hu
     conv=>arg 5;whnf
     refine wp_must ⟨by show 0+Z1.ev.length+Z2.ev.length≤maxLen;unfold maxLen;omega,by show (0+Z1.ev.length+Z2.ev.length)*72≤140737488355328;omega,fun h=>he2.2.2 h⟩ ?_
     conv=>arg 5;whnf
     refine meetc (f:=23) (v:=ekV Z2.v a2.y) rfl (by kernel_rfl) (fun β ρ w' hM'=>toldV Z2.v a2.y w') ?_
     conv=>arg 5;whnf
     refine meetc (f:=23) (v:=ekV Z2.v a3.y) rfl (by kernel_rfl) (fun β ρ w' hM'=>toldV Z2.v a3.y w') ?_
     conv=>arg 5;whnf
     refine meetc (f:=22) (v:=.bool true) rfl (by kernel_rfl) (fun β ρ w' hM'=>rsameE Z2.v a2.y a3.y w' hy2 hy3 (fun φ hφ g hg=>(hM'.fact φ (show φ∈(a3.fs ⟨Z2.v,Z2.s,Z1.ev++Z2.ev,false⟩++(a2.fs ⟨Z2.v,Z2.s,Z2.ev,false⟩++(a.fs ⟨Z1.v,Z1.s,Z1.ev,false⟩++(rowF (pt u x0.S.length) (cellsS x0.S)::(y0.fsN v++sgF x0 s0))))) from mem_r (List.mem_append_left _ (.tail _ (List.mem_append_left _ hφ)))) g hg).2) (fun φ hφ g hg=>(hM'.fact φ (show φ∈(a3.fs ⟨Z2.v,Z2.s,Z1.ev++Z2.ev,false⟩++(a2.fs ⟨Z2.v,Z2.s,Z2.ev,false⟩++(a.fs ⟨Z1.v,Z1.s,Z1.ev,false⟩++(rowF (pt u x0.S.length) (cellsS x0.S)::(y0.fsN v++sgF x0 s0))))) from List.mem_append_left _ (.tail _ (List.mem_append_left _ hφ))) g hg).2)) ?_
     conv=>arg 5;whnf
     refine meet1F (f:=21) (n:=a2.x.S.length) (v:=fun a1 c1=>sgV Z2.s ⟨a2.x.la,a2.x.lc,a1,c1,a2.x.S⟩) (xs:=cellsS a2.x.S) rfl (by kernel_rfl) (fun β ρ w' hM'=>toldS Z2.s a2.x w' hx2.1 hx2.2.1 (hM'.at_ (show rowF (pt a2.x.sa a2.x.S.length) (cellsS a2.x.S)∈(a3.fs ⟨Z2.v,Z2.s,Z1.ev++Z2.ev,false⟩++(a2.fs ⟨Z2.v,Z2.s,Z2.ev,false⟩++(a.fs ⟨Z1.v,Z1.s,Z1.ev,false⟩++(rowF (pt u x0.S.length) (cellsS x0.S)::(y0.fsN v++sgF x0 s0))))) from mem_r (List.mem_append_left _ (.tail _ (mem_r (.tail _ (.head _))))))) (by have:=sgs_len hx2;have:=G2.s.2.1;omega)) (fun p c_p h_p f_p=>?_)
     conv=>arg 5;whnf
     refine meet1F (f:=21) (n:=a3.x.S.length) (v:=fun a1 c1=>sgV Z2.s ⟨a3.x.la,a3.x.lc,a1,c1,a3.x.S⟩) (xs:=cellsS a3.x.S) rfl (by kernel_rfl) (fun β ρ w' hM'=>toldS Z2.s a3.x w' hx3.1 hx3.2.1 (hM'.at_ (show rowF (pt a3.x.sa a3.x.S.length) (cellsS a3.x.S)∈(rowF (pt p a2.x.S.length) (cellsS a2.x.S)::(a3.fs ⟨Z2.v,Z2.s,Z1.ev++Z2.ev,false⟩++(a2.fs ⟨Z2.v,Z2.s,Z2.ev,false⟩++(a.fs ⟨Z1.v,Z1.s,Z1.ev,false⟩++(rowF (pt u x0.S.length) (cellsS x0.S)::(y0.fsN v++sgF x0 s0)))))) from .tail _ (List.mem_append_left _ (.tail _ (mem_r (.tail _ (.head _))))))) (by have:=sgs_len hx3;have:=G2.s.2.1;omega)) (fun q c_q h_q f_q=>?_)
     have hxp:Sgo (⟨a2.x.la,a2.x.lc,p,c_p,a2.x.S⟩:Sn) Z2.s:=⟨hx2.1,h_p,hx2.2.2.1,hx2.2.2.2⟩
     have hxq:Sgo (⟨a3.x.la,a3.x.lc,q,c_q,a3.x.S⟩:Sn) Z2.s:=⟨hx3.1,h_q,hx3.2.2.1,hx3.2.2.2⟩
     conv=>arg 5;whnf
     refine meetc (f:=28) (v:=.bool true) rfl (by kernel_rfl) (fun β ρ w' hM'=>rsameS2 rfl (⟨a2.x.la,a2.x.lc,p,c_p,a2.x.S⟩:Sn) (⟨a3.x.la,a3.x.lc,q,c_q,a3.x.S⟩:Sn) w' (sgs_of hM' hxp fun φ hφ=>(show φ∈(rowF (pt q a3.x.S.length) (cellsS a3.x.S)::(rowF (pt p a2.x.S.length) (cellsS a2.x.S)::(a3.fs ⟨Z2.v,Z2.s,Z1.ev++Z2.ev,false⟩++(a2.fs ⟨Z2.v,Z2.s,Z2.ev,false⟩++(a.fs ⟨Z1.v,Z1.s,Z1.ev,false⟩++(rowF (pt u x0.S.length) (cellsS x0.S)::(y0.fsN v++sgF x0 s0))))))) from (List.mem_cons.1 hφ).elim (fun e=>e▸.tail _ (.tail _ (mem_r (List.mem_append_left _ (.tail _ (mem_r (.head _))))))) fun hφ=>(List.mem_cons.1 hφ).elim (fun e=>e▸.tail _ (.head _)) fun hφ=>.tail _ (.tail _ (mem_r (List.mem_append_left _ (.tail _ (mem_r (.tail _ (.tail _ hφ))))))))) (sgs_of hM' hxq fun φ hφ=>(show φ∈(rowF (pt q a3.x.S.length) (cellsS a3.x.S)::(rowF (pt p a2.x.S.length) (cellsS a2.x.S)::(a3.fs ⟨Z2.v,Z2.s,Z1.ev++Z2.ev,false⟩++(a2.fs ⟨Z2.v,Z2.s,Z2.ev,false⟩++(a.fs ⟨Z1.v,Z1.s,Z1.ev,false⟩++(rowF (pt u x0.S.length) (cellsS x0.S)::(y0.fsN v++sgF x0 s0))))))) from (List.mem_cons.1 hφ).elim (fun e=>e▸.tail _ (.tail _ (List.mem_append_left _ (.tail _ (mem_r (.head _)))))) fun hφ=>(List.mem_cons.1 hφ).elim (fun e=>e▸.head _) fun hφ=>.tail _ (.tail _ (List.mem_append_left _ (.tail _ (mem_r (.tail _ (.tail _ hφ))))))))) ?_
     conv=>arg 5;whnf
     refine wp_share fun e c_e h_e f_e=>?_
     have hel:(Z1.ev++Z2.ev).length=Z1.ev.length+Z2.ev.length:=List.length_append
     conv=>arg 5;whnf
     refine meetc (f:=24) (v:=.bool true) rfl (by kernel_rfl) (fun β ρ w' hM'=>EVS _ e c_e w' (by show 0+Z1.ev.length+Z2.ev.length=_;rw [hel];omega) h_e (hM'.at_ (show rowF e ([]++cellsE Z1.ev++cellsE Z2.ev)∈rowF e ([]++cellsE Z1.ev++cellsE Z2.ev)::(rowF (pt q a3.x.S.length) (cellsS a3.x.S)::(rowF (pt p a2.x.S.length) (cellsS a2.x.S)::(a3.fs ⟨Z2.v,Z2.s,Z1.ev++Z2.ev,false⟩++(a2.fs ⟨Z2.v,Z2.s,Z2.ev,false⟩++(a.fs ⟨Z1.v,Z1.s,Z1.ev,false⟩++(rowF (pt u x0.S.length) (cellsS x0.S)::(y0.fsN v++sgF x0 s0))))))) from .head _)) (hM'.at_ (show rowF (pt a3.ea (Z1.ev++Z2.ev).length) (cellsE (Z1.ev++Z2.ev))∈rowF e ([]++cellsE Z1.ev++cellsE Z2.ev)::(rowF (pt q a3.x.S.length) (cellsS a3.x.S)::(rowF (pt p a2.x.S.length) (cellsS a2.x.S)::(a3.fs ⟨Z2.v,Z2.s,Z1.ev++Z2.ev,false⟩++(a2.fs ⟨Z2.v,Z2.s,Z2.ev,false⟩++(a.fs ⟨Z1.v,Z1.s,Z1.ev,false⟩++(rowF (pt u x0.S.length) (cellsS x0.S)::(y0.fsN v++sgF x0 s0))))))) from .tail _ (.tail _ (.tail _ (List.mem_append_left _ (.head _))))))) ?_
     conv=>arg 5;whnf
     refine wp_must ⟨by omega,by omega⟩ ?_
     conv=>arg 5;whnf
     refine wp_g1 (fun _=>?_) (fun h=>by simp at h)
     conv=>arg 5;whnf
     refine meetc (f:=15) (v:=.bool true) rfl (by kernel_rfl) (fun β ρ w' hM'=>evict.live w' (hM.later hM'.below)) ?_
     conv=>arg 5;whnf
     exact wp_back fun β ρ w' hM'=>⟨rfl,hM'.below⟩
    ·intro a3 ⟨G3,b3,ha3⟩
     obtain ⟨hy3,hx3,he3'⟩:=ha3
     have hy3:a3.y.ok Z2.v.P:=hy3
     have hx3:Sgo a3.x Z2.s:=hx3
     have he3':Sl a3.ea (Z1.ev++Z2.ev).length a3.ec:=he3'
     subst hB5
     have EVS:∀(n:Nat) (e:Option Addr) (c_e:Nat) (w':World),n=(Z1.ev++Z2.ev).length→Sl e n c_e→At w' e (cellsE Z1.ev++cellsE Z2.ev)→At w' (pt a3.ea (Z1.ev++Z2.ev).length) (cellsE (Z1.ev++Z2.ev))→Calls Tryz.prog 24 (List.toArray [.slice e n c_e,.slice a3.ea (Z1.ev++Z2.ev).length a3.ec]) w' fun e' w''=>e'=.returned (.bool true)∧Below w'.heap.size w' w'':=fun n e c_e w' hn hs hr hr2=>by
      subst hn
      rw [← cellsE_app] at hr
      exact revents (Z1.ev++Z2.ev) e c_e a3.ea a3.ec w' hs (at_pt _ hr) he3' hr2
     conv=>arg 5;whnf
     refine wp_rows (cellsE Z1.ev) (by rw [cellsE_length]) (cellsE_one _) (fun β ρ w' hM' ad had j uu hu=>?_) ?_
     ·have h4:=hM'.at_ (show rowF (pt a.ea Z1.ev.length) (cellsE Z1.ev)∈(a3.fs ⟨Z2.v,Z2.s,Z1.ev++Z2.ev,false⟩++(a2.fs ⟨Z2.v,Z2.s,Z2.ev,false⟩++(a.fs ⟨Z1.v,Z1.s,Z1.ev,false⟩++(rowF (pt u x0.S.length) (cellsS x0.S)::(y0.fsN v++sgF x0 s0))))) from mem_r (mem_r (List.mem_append_left _ (.head _))))
      rw [had] at h4
      rw [pt_pos (k:=0) (by have:=(List.getElem?_eq_some_iff.1 hu).1;rw [cellsE_length] at this;omega)] at h4
      exact h4.cell hu
     conv=>arg 5;whnf
     refine wp_must ⟨by show 0+Z1.ev.length≤maxLen;unfold maxLen;omega,by show (0+Z1.ev.length)*72≤140737488355328;omega,fun h=>he1.2.2 h⟩ ?_
     conv=>arg 5;whnf
     refine wp_rows (cellsE Z2.ev) (by rw [cellsE_length]) (cellsE_one _) (fun β ρ w' hM' ad had j uu hu=>?_) ?_
     ·have h4:=hM'.at_ (show rowF (pt a2.ea Z2.ev.length) (cellsE Z2.ev)∈(a3.fs ⟨Z2.v,Z2.s,Z1.ev++Z2.ev,false⟩++(a2.fs ⟨Z2.v,Z2.s,Z2.ev,false⟩++(a.fs ⟨Z1.v,Z1.s,Z1.ev,false⟩++(rowF (pt u x0.S.length) (cellsS x0.S)::(y0.fsN v++sgF x0 s0))))) from mem_r (List.mem_append_left _ (.head _)))
      rw [had] at h4
      rw [pt_pos (k:=0) (by have:=(List.getElem?_eq_some_iff.1 hu).1;rw [cellsE_length] at this;omega)] at h4
      exact h4.cell hu
     conv=>arg 5;whnf
     refine wp_must ⟨by show 0+Z1.ev.length+Z2.ev.length≤maxLen;unfold maxLen;omega,by show (0+Z1.ev.length+Z2.ev.length)*72≤140737488355328;omega,fun h=>he2.2.2 h⟩ ?_
     conv=>arg 5;whnf
     refine meetc (f:=23) (v:=ekV Z2.v a2.y) rfl (by kernel_rfl) (fun β ρ w' hM'=>toldV Z2.v a2.y w') ?_
     conv=>arg 5;whnf
     refine meetc (f:=23) (v:=ekV Z2.v a3.y) rfl (by kernel_rfl) (fun β ρ w' hM'=>toldV Z2.v a3.y w') ?_
     conv=>arg 5;whnf
     refine meetc (f:=22) (v:=.bool true) rfl (by kernel_rfl) (fun β ρ w' hM'=>rsameE Z2.v a2.y a3.y w' hy2 hy3 (fun φ hφ g hg=>(hM'.fact φ (show φ∈(a3.fs ⟨Z2.v,Z2.s,Z1.ev++Z2.ev,false⟩++(a2.fs ⟨Z2.v,Z2.s,Z2.ev,false⟩++(a.fs ⟨Z1.v,Z1.s,Z1.ev,false⟩++(rowF (pt u x0.S.length) (cellsS x0.S)::(y0.fsN v++sgF x0 s0))))) from mem_r (List.mem_append_left _ (.tail _ (List.mem_append_left _ hφ)))) g hg).2) (fun φ hφ g hg=>(hM'.fact φ (show φ∈(a3.fs ⟨Z2.v,Z2.s,Z1.ev++Z2.ev,false⟩++(a2.fs ⟨Z2.v,Z2.s,Z2.ev,false⟩++(a.fs ⟨Z1.v,Z1.s,Z1.ev,false⟩++(rowF (pt u x0.S.length) (cellsS x0.S)::(y0.fsN v++sgF x0 s0))))) from List.mem_append_left _ (.tail _ (List.mem_append_left _ hφ))) g hg).2)) ?_
     conv=>arg 5;whnf
     refine meet1F (f:=21) (n:=a2.x.S.length) (v:=fun a1 c1=>sgV Z2.s ⟨a2.x.la,a2.x.lc,a1,c1,a2.x.S⟩) (xs:=cellsS a2.x.S) rfl (by kernel_rfl) (fun β ρ w' hM'=>toldS Z2.s a2.x w' hx2.1 hx2.2.1 (hM'.at_ (show rowF (pt a2.x.sa a2.x.S.length) (cellsS a2.x.S)∈(a3.fs ⟨Z2.v,Z2.s,Z1.ev++Z2.ev,false⟩++(a2.fs ⟨Z2.v,Z2.s,Z2.ev,false⟩++(a.fs ⟨Z1.v,Z1.s,Z1.ev,false⟩++(rowF (pt u x0.S.length) (cellsS x0.S)::(y0.fsN v++sgF x0 s0))))) from mem_r (List.mem_append_left _ (.tail _ (mem_r (.tail _ (.head _))))))) (by have:=sgs_len hx2;have:=G2.s.2.1;omega)) (fun p c_p h_p f_p=>?_)
     conv=>arg 5;whnf
     refine meet1F (f:=21) (n:=a3.x.S.length) (v:=fun a1 c1=>sgV Z2.s ⟨a3.x.la,a3.x.lc,a1,c1,a3.x.S⟩) (xs:=cellsS a3.x.S) rfl (by kernel_rfl) (fun β ρ w' hM'=>toldS Z2.s a3.x w' hx3.1 hx3.2.1 (hM'.at_ (show rowF (pt a3.x.sa a3.x.S.length) (cellsS a3.x.S)∈(rowF (pt p a2.x.S.length) (cellsS a2.x.S)::(a3.fs ⟨Z2.v,Z2.s,Z1.ev++Z2.ev,false⟩++(a2.fs ⟨Z2.v,Z2.s,Z2.ev,false⟩++(a.fs ⟨Z1.v,Z1.s,Z1.ev,false⟩++(rowF (pt u x0.S.length) (cellsS x0.S)::(y0.fsN v++sgF x0 s0)))))) from .tail _ (List.mem_append_left _ (.tail _ (mem_r (.tail _ (.head _))))))) (by have:=sgs_len hx3;have:=G2.s.2.1;omega)) (fun q c_q h_q f_q=>?_)
     have hxp:Sgo (⟨a2.x.la,a2.x.lc,p,c_p,a2.x.S⟩:Sn) Z2.s:=⟨hx2.1,h_p,hx2.2.2.1,hx2.2.2.2⟩
     have hxq:Sgo (⟨a3.x.la,a3.x.lc,q,c_q,a3.x.S⟩:Sn) Z2.s:=⟨hx3.1,h_q,hx3.2.2.1,hx3.2.2.2⟩
     conv=>arg 5;whnf
     refine meetc (f:=28) (v:=.bool true) rfl (by kernel_rfl) (fun β ρ w' hM'=>rsameS2 rfl (⟨a2.x.la,a2.x.lc,p,c_p,a2.x.S⟩:Sn) (⟨a3.x.la,a3.x.lc,q,c_q,a3.x.S⟩:Sn) w' (sgs_of hM' hxp fun φ hφ=>(show φ∈(rowF (pt q a3.x.S.length) (cellsS a3.x.S)::(rowF (pt p a2.x.S.length) (cellsS a2.x.S)::(a3.fs ⟨Z2.v,Z2.s,Z1.ev++Z2.ev,false⟩++(a2.fs ⟨Z2.v,Z2.s,Z2.ev,false⟩++(a.fs ⟨Z1.v,Z1.s,Z1.ev,false⟩++(rowF (pt u x0.S.length) (cellsS x0.S)::(y0.fsN v++sgF x0 s0))))))) from (List.mem_cons.1 hφ).elim (fun e=>e▸.tail _ (.tail _ (mem_r (List.mem_append_left _ (.tail _ (mem_r (.head _))))))) fun hφ=>(List.mem_cons.1 hφ).elim (fun e=>e▸.tail _ (.head _)) fun hφ=>.tail _ (.tail _ (mem_r (List.mem_append_left _ (.tail _ (mem_r (.tail _ (.tail _ hφ))))))))) (sgs_of hM' hxq fun φ hφ=>(show φ∈(rowF (pt q a3.x.S.length) (cellsS a3.x.S)::(rowF (pt p a2.x.S.length) (cellsS a2.x.S)::(a3.fs ⟨Z2.v,Z2.s,Z1.ev++Z2.ev,false⟩++(a2.fs ⟨Z2.v,Z2.s,Z2.ev,false⟩++(a.fs ⟨Z1.v,Z1.s,Z1.ev,false⟩++(rowF (pt u x0.S.length) (cellsS x0.S)::(y0.fsN v++sgF x0 s0))))))) from (List.mem_cons.1 hφ).elim (fun e=>e▸.tail _ (.tail _ (List.mem_append_left _ (.tail _ (mem_r (.head _)))))) fun hφ=>(List.mem_cons.1 hφ).elim (fun e=>e▸.head _) fun hφ=>.tail _ (.tail _ (List.mem_append_left _ (.tail _ (mem_r (.tail _ (.tail _ hφ))))))))) ?_
     conv=>arg 5;whnf
     refine wp_share fun e c_e h_e f_e=>?_
     have hel:(Z1.ev++Z2.ev).length=Z1.ev.length+Z2.ev.length:=List.length_append
     conv=>arg 5;whnf
     refine meetc (f:=24) (v:=.bool true) rfl (by kernel_rfl) (fun β ρ w' hM'=>EVS _ e c_e w' (by show 0+Z1.ev.length+Z2.ev.length=_;rw [hel];omega) h_e (hM'.at_ (show rowF e ([]++cellsE Z1.ev++cellsE Z2.ev)∈rowF e ([]++cellsE Z1.ev++cellsE Z2.ev)::(rowF (pt q a3.x.S.length) (cellsS a3.x.S)::(rowF (pt p a2.x.S.length) (cellsS a2.x.S)::(a3.fs ⟨Z2.v,Z2.s,Z1.ev++Z2.ev,false⟩++(a2.fs ⟨Z2.v,Z2.s,Z2.ev,false⟩++(a.fs ⟨Z1.v,Z1.s,Z1.ev,false⟩++(rowF (pt u x0.S.length) (cellsS x0.S)::(y0.fsN v++sgF x0 s0))))))) from .head _)) (hM'.at_ (show rowF (pt a3.ea (Z1.ev++Z2.ev).length) (cellsE (Z1.ev++Z2.ev))∈rowF e ([]++cellsE Z1.ev++cellsE Z2.ev)::(rowF (pt q a3.x.S.length) (cellsS a3.x.S)::(rowF (pt p a2.x.S.length) (cellsS a2.x.S)::(a3.fs ⟨Z2.v,Z2.s,Z1.ev++Z2.ev,false⟩++(a2.fs ⟨Z2.v,Z2.s,Z2.ev,false⟩++(a.fs ⟨Z1.v,Z1.s,Z1.ev,false⟩++(rowF (pt u x0.S.length) (cellsS x0.S)::(y0.fsN v++sgF x0 s0))))))) from .tail _ (.tail _ (.tail _ (List.mem_append_left _ (.head _))))))) ?_
     conv=>arg 5;whnf
     refine wp_must ⟨by omega,by omega⟩ ?_
     conv=>arg 5;whnf
     refine wp_g1 (fun _=>?_) (fun h=>by simp at h)
     conv=>arg 5;whnf
     refine meetc (f:=15) (v:=.bool true) rfl (by kernel_rfl) (fun β ρ w' hM'=>evict.live w' (hM.later hM'.below)) ?_
     conv=>arg 5;whnf
     exact wp_back fun β ρ w' hM'=>⟨rfl,hM'.below⟩
   ·intro a ⟨G1,b1,ha,hnew⟩
    obtain ⟨hy1,hx1',he1⟩:=ha
    have hy1:a.y.ok Z1.v.P:=hy1
    have hx1':Sgo a.x Z1.s:=hx1'
    have he1:Sl a.ea Z1.ev.length a.ec:=he1
    subst hB3
    refine cut_seq rfl ?_
    intro B4 hB4
    conv=>arg 5;whnf
    refine wp_must ⟨by decide,by decide⟩ ?_
    conv=>arg 5;whnf
    refine wp_must ⟨by decide,by decide⟩ ?_
    conv=>arg 5;whnf
    refine meetRun (f:=19) Z2 (min m2 10000).toNat (a.y.fsN Z1.v++sgF a.x Z1.s) (fun φ hφ=>(show φ∈(a.fs ⟨Z1.v,Z1.s,Z1.ev,false⟩++(rowF (pt u x0.S.length) (cellsS x0.S)::(y0.fsN v++sgF x0 s0))) from List.mem_append_left _ (.tail _ hφ))) rfl (by kernel_rfl) (fun β ρ w' hM'=>hZ2▸RUN2 Z1 a.y a.x hy1 hx1' G1 w' (hM.later hM'.below) (fun φ hφ g hg=>(hM'.fact φ (show φ∈(a.fs ⟨Z1.v,Z1.s,Z1.ev,false⟩++(rowF (pt u x0.S.length) (cellsS x0.S)::(y0.fsN v++sgF x0 s0))) from List.mem_append_left _ (.tail _ (List.mem_append_left _ hφ))) g hg).2) (fun φ hφ g hg=>(hM'.fact φ (show φ∈(a.fs ⟨Z1.v,Z1.s,Z1.ev,false⟩++(rowF (pt u x0.S.length) (cellsS x0.S)::(y0.fsN v++sgF x0 s0))) from List.mem_append_left _ (.tail _ (List.mem_append_right _ hφ))) g hg).2)) (fun G2 b2 a2 ha2 hnew2=>?_)
    conv=>arg 5;whnf
    subst hB4
    refine cut_seq rfl ?_
    intro B5 hB5
    obtain ⟨hy2,hx2,he2⟩:=ha2
    have hy2:a2.y.ok Z2.v.P:=hy2
    have hx2:Sgo a2.x Z2.s:=hx2
    have he2:Sl a2.ea Z2.ev.length a2.ec:=he2
    apply wp_keep2 (A:=fun a3=>Gd Z2.v Z2.s∧((Z1.ev++Z2.ev).length≤(min (m1+m2) 10000).toNat*1000∧0≤Z1.n+Z2.n∧Z1.n+Z2.n≤(min (m1+m2) 10000).toNat)∧a3.ok ⟨Z2.v,Z2.s,Z1.ev++Z2.ev,false⟩)
    ·intro keyF3 keyT3
     conv=>arg 5;whnf
     refine wp_must ⟨by decide,by decide⟩ ?_
     conv=>arg 5;whnf
     refine wp_must ⟨by decide,by decide⟩ ?_
     conv=>arg 5;whnf
     refine wp_must ⟨by decide,by decide⟩ ?_
     conv=>arg 5;whnf
     refine wp_must ⟨by omega,by omega⟩ ?_
     conv=>arg 5;whnf
     refine wp_both ?_ (wp_both ?_ ?_)
     ·skip
      conv=>arg 5;whnf
      refine meetc (f:=30) (v:=ekV v y0) rfl (by kernel_rfl) (fun β ρ w' hM'=>ownV v y0 w') ?_
      conv=>arg 5;whnf
      refine wp_both ?_ (wp_both ?_ ?_)
      ·skip
       conv=>arg 5;whnf
       refine meetRun (f:=19) (⟨Z2.v,Z2.s,Z1.ev++Z2.ev,Z1.n+Z2.n⟩:evict.Rz) (min (m1+m2) 10000).toNat (y0.fsN v++sgF (⟨x0.la,x0.lc,u,c_u,x0.S⟩:Sn) s0) (fun φ hφ=>(show φ∈(a2.fs ⟨Z2.v,Z2.s,Z2.ev,false⟩++(a.fs ⟨Z1.v,Z1.s,Z1.ev,false⟩++(rowF (pt u x0.S.length) (cellsS x0.S)::(y0.fsN v++sgF x0 s0)))) from mem_r (mem_r ((List.mem_append.1 hφ).elim (fun h=>.tail _ (List.mem_append_left _ h)) fun hφ=>(List.mem_cons.1 hφ).elim (fun e=>e▸.tail _ (mem_r (.head _))) fun hφ=>(List.mem_cons.1 hφ).elim (fun e=>e▸.head _) fun hφ=>.tail _ (mem_r (.tail _ (.tail _ hφ))))))) rfl (by kernel_rfl) (fun β ρ w' hM'=>hZ3▸RUN3 w' (hM.later hM'.below) (fun φ hφ g hg=>(hM'.fact φ (show φ∈(a2.fs ⟨Z2.v,Z2.s,Z2.ev,false⟩++(a.fs ⟨Z1.v,Z1.s,Z1.ev,false⟩++(rowF (pt u x0.S.length) (cellsS x0.S)::(y0.fsN v++sgF x0 s0)))) from mem_r (mem_r (.tail _ (List.mem_append_left _ hφ)))) g hg).2) (fun φ hφ g hg=>(hM'.fact φ (show φ∈(a2.fs ⟨Z2.v,Z2.s,Z2.ev,false⟩++(a.fs ⟨Z1.v,Z1.s,Z1.ev,false⟩++(rowF (pt u x0.S.length) (cellsS x0.S)::(y0.fsN v++sgF x0 s0)))) from mem_r (mem_r ((List.mem_cons.1 hφ).elim (fun e=>e▸.tail _ (mem_r (.head _))) fun hφ=>(List.mem_cons.1 hφ).elim (fun e=>e▸.head _) fun hφ=>.tail _ (mem_r (.tail _ (.tail _ hφ)))))) g hg).2)) (fun G3 b3 a3 ha3 hnew3=>?_)
       conv=>arg 5;whnf
       refine wp_both ?_ ?_
       ·skip
        conv=>arg 5;whnf
        exact keyF3 a3 ⟨G3,b3,ha3⟩
       ·skip
        conv=>arg 5;whnf
        exact keyT3 a3 ⟨G3,b3,ha3⟩
      ·skip
       conv=>arg 5;whnf
       refine wp_both ?_ ?_
       ·skip
        conv=>arg 5;whnf
        refine meetRun (f:=19) (⟨Z2.v,Z2.s,Z1.ev++Z2.ev,Z1.n+Z2.n⟩:evict.Rz) (min (m1+m2) 10000).toNat (y0.fsN v++sgF (⟨x0.la,x0.lc,u,c_u,x0.S⟩:Sn) s0) (fun φ hφ=>(show φ∈(a2.fs ⟨Z2.v,Z2.s,Z2.ev,false⟩++(a.fs ⟨Z1.v,Z1.s,Z1.ev,false⟩++(rowF (pt u x0.S.length) (cellsS x0.S)::(y0.fsN v++sgF x0 s0)))) from mem_r (mem_r ((List.mem_append.1 hφ).elim (fun h=>.tail _ (List.mem_append_left _ h)) fun hφ=>(List.mem_cons.1 hφ).elim (fun e=>e▸.tail _ (mem_r (.head _))) fun hφ=>(List.mem_cons.1 hφ).elim (fun e=>e▸.head _) fun hφ=>.tail _ (mem_r (.tail _ (.tail _ hφ))))))) rfl (by kernel_rfl) (fun β ρ w' hM'=>hZ3▸RUN3 w' (hM.later hM'.below) (fun φ hφ g hg=>(hM'.fact φ (show φ∈(a2.fs ⟨Z2.v,Z2.s,Z2.ev,false⟩++(a.fs ⟨Z1.v,Z1.s,Z1.ev,false⟩++(rowF (pt u x0.S.length) (cellsS x0.S)::(y0.fsN v++sgF x0 s0)))) from mem_r (mem_r (.tail _ (List.mem_append_left _ hφ)))) g hg).2) (fun φ hφ g hg=>(hM'.fact φ (show φ∈(a2.fs ⟨Z2.v,Z2.s,Z2.ev,false⟩++(a.fs ⟨Z1.v,Z1.s,Z1.ev,false⟩++(rowF (pt u x0.S.length) (cellsS x0.S)::(y0.fsN v++sgF x0 s0)))) from mem_r (mem_r ((List.mem_cons.1 hφ).elim (fun e=>e▸.tail _ (mem_r (.head _))) fun hφ=>(List.mem_cons.1 hφ).elim (fun e=>e▸.head _) fun hφ=>.tail _ (mem_r (.tail _ (.tail _ hφ)))))) g hg).2)) (fun G3 b3 a3 ha3 hnew3=>?_)
        conv=>arg 5;whnf
        exact keyF3 a3 ⟨G3,b3,ha3⟩
       ·skip
        conv=>arg 5;whnf
        refine meetRun (f:=19) (⟨Z2.v,Z2.s,Z1.ev++Z2.ev,Z1.n+Z2.n⟩:evict.Rz) (min (m1+m2) 10000).toNat (y0.fsN v++sgF (⟨x0.la,x0.lc,u,c_u,x0.S⟩:Sn) s0) (fun φ hφ=>(show φ∈(a2.fs ⟨Z2.v,Z2.s,Z2.ev,false⟩++(a.fs ⟨Z1.v,Z1.s,Z1.ev,false⟩++(rowF (pt u x0.S.length) (cellsS x0.S)::(y0.fsN v++sgF x0 s0)))) from mem_r (mem_r ((List.mem_append.1 hφ).elim (fun h=>.tail _ (List.mem_append_left _ h)) fun hφ=>(List.mem_cons.1 hφ).elim (fun e=>e▸.tail _ (mem_r (.head _))) fun hφ=>(List.mem_cons.1 hφ).elim (fun e=>e▸.head _) fun hφ=>.tail _ (mem_r (.tail _ (.tail _ hφ))))))) rfl (by kernel_rfl) (fun β ρ w' hM'=>hZ3▸RUN3 w' (hM.later hM'.below) (fun φ hφ g hg=>(hM'.fact φ (show φ∈(a2.fs ⟨Z2.v,Z2.s,Z2.ev,false⟩++(a.fs ⟨Z1.v,Z1.s,Z1.ev,false⟩++(rowF (pt u x0.S.length) (cellsS x0.S)::(y0.fsN v++sgF x0 s0)))) from mem_r (mem_r (.tail _ (List.mem_append_left _ hφ)))) g hg).2) (fun φ hφ g hg=>(hM'.fact φ (show φ∈(a2.fs ⟨Z2.v,Z2.s,Z2.ev,false⟩++(a.fs ⟨Z1.v,Z1.s,Z1.ev,false⟩++(rowF (pt u x0.S.length) (cellsS x0.S)::(y0.fsN v++sgF x0 s0)))) from mem_r (mem_r ((List.mem_cons.1 hφ).elim (fun e=>e▸.tail _ (mem_r (.head _))) fun hφ=>(List.mem_cons.1 hφ).elim (fun e=>e▸.head _) fun hφ=>.tail _ (mem_r (.tail _ (.tail _ hφ)))))) g hg).2)) (fun G3 b3 a3 ha3 hnew3=>?_)
        conv=>arg 5;whnf
        exact keyF3 a3 ⟨G3,b3,ha3⟩
      ·skip
       conv=>arg 5;whnf
       refine wp_both ?_ ?_
       ·skip
        conv=>arg 5;whnf
        refine meetRun (f:=19) (⟨Z2.v,Z2.s,Z1.ev++Z2.ev,Z1.n+Z2.n⟩:evict.Rz) (min (m1+m2) 10000).toNat (y0.fsN v++sgF (⟨x0.la,x0.lc,u,c_u,x0.S⟩:Sn) s0) (fun φ hφ=>(show φ∈(a2.fs ⟨Z2.v,Z2.s,Z2.ev,false⟩++(a.fs ⟨Z1.v,Z1.s,Z1.ev,false⟩++(rowF (pt u x0.S.length) (cellsS x0.S)::(y0.fsN v++sgF x0 s0)))) from mem_r (mem_r ((List.mem_append.1 hφ).elim (fun h=>.tail _ (List.mem_append_left _ h)) fun hφ=>(List.mem_cons.1 hφ).elim (fun e=>e▸.tail _ (mem_r (.head _))) fun hφ=>(List.mem_cons.1 hφ).elim (fun e=>e▸.head _) fun hφ=>.tail _ (mem_r (.tail _ (.tail _ hφ))))))) rfl (by kernel_rfl) (fun β ρ w' hM'=>hZ3▸RUN3 w' (hM.later hM'.below) (fun φ hφ g hg=>(hM'.fact φ (show φ∈(a2.fs ⟨Z2.v,Z2.s,Z2.ev,false⟩++(a.fs ⟨Z1.v,Z1.s,Z1.ev,false⟩++(rowF (pt u x0.S.length) (cellsS x0.S)::(y0.fsN v++sgF x0 s0)))) from mem_r (mem_r (.tail _ (List.mem_append_left _ hφ)))) g hg).2) (fun φ hφ g hg=>(hM'.fact φ (show φ∈(a2.fs ⟨Z2.v,Z2.s,Z2.ev,false⟩++(a.fs ⟨Z1.v,Z1.s,Z1.ev,false⟩++(rowF (pt u x0.S.length) (cellsS x0.S)::(y0.fsN v++sgF x0 s0)))) from mem_r (mem_r ((List.mem_cons.1 hφ).elim (fun e=>e▸.tail _ (mem_r (.head _))) fun hφ=>(List.mem_cons.1 hφ).elim (fun e=>e▸.head _) fun hφ=>.tail _ (mem_r (.tail _ (.tail _ hφ)))))) g hg).2)) (fun G3 b3 a3 ha3 hnew3=>?_)
        conv=>arg 5;whnf
        exact keyT3 a3 ⟨G3,b3,ha3⟩
       ·skip
        conv=>arg 5;whnf
        refine meetRun (f:=19) (⟨Z2.v,Z2.s,Z1.ev++Z2.ev,Z1.n+Z2.n⟩:evict.Rz) (min (m1+m2) 10000).toNat (y0.fsN v++sgF (⟨x0.la,x0.lc,u,c_u,x0.S⟩:Sn) s0) (fun φ hφ=>(show φ∈(a2.fs ⟨Z2.v,Z2.s,Z2.ev,false⟩++(a.fs ⟨Z1.v,Z1.s,Z1.ev,false⟩++(rowF (pt u x0.S.length) (cellsS x0.S)::(y0.fsN v++sgF x0 s0)))) from mem_r (mem_r ((List.mem_append.1 hφ).elim (fun h=>.tail _ (List.mem_append_left _ h)) fun hφ=>(List.mem_cons.1 hφ).elim (fun e=>e▸.tail _ (mem_r (.head _))) fun hφ=>(List.mem_cons.1 hφ).elim (fun e=>e▸.head _) fun hφ=>.tail _ (mem_r (.tail _ (.tail _ hφ))))))) rfl (by kernel_rfl) (fun β ρ w' hM'=>hZ3▸RUN3 w' (hM.later hM'.below) (fun φ hφ g hg=>(hM'.fact φ (show φ∈(a2.fs ⟨Z2.v,Z2.s,Z2.ev,false⟩++(a.fs ⟨Z1.v,Z1.s,Z1.ev,false⟩++(rowF (pt u x0.S.length) (cellsS x0.S)::(y0.fsN v++sgF x0 s0)))) from mem_r (mem_r (.tail _ (List.mem_append_left _ hφ)))) g hg).2) (fun φ hφ g hg=>(hM'.fact φ (show φ∈(a2.fs ⟨Z2.v,Z2.s,Z2.ev,false⟩++(a.fs ⟨Z1.v,Z1.s,Z1.ev,false⟩++(rowF (pt u x0.S.length) (cellsS x0.S)::(y0.fsN v++sgF x0 s0)))) from mem_r (mem_r ((List.mem_cons.1 hφ).elim (fun e=>e▸.tail _ (mem_r (.head _))) fun hφ=>(List.mem_cons.1 hφ).elim (fun e=>e▸.head _) fun hφ=>.tail _ (mem_r (.tail _ (.tail _ hφ)))))) g hg).2)) (fun G3 b3 a3 ha3 hnew3=>?_)
        conv=>arg 5;whnf
        exact keyT3 a3 ⟨G3,b3,ha3⟩
     ·skip
      conv=>arg 5;whnf
      refine wp_both ?_ ?_
      ·skip
       conv=>arg 5;whnf
       refine meetc (f:=30) (v:=ekV v y0) rfl (by kernel_rfl) (fun β ρ w' hM'=>ownV v y0 w') ?_
       conv=>arg 5;whnf
       refine wp_both ?_ ?_
       ·skip
        conv=>arg 5;whnf
        refine meetRun (f:=19) (⟨Z2.v,Z2.s,Z1.ev++Z2.ev,Z1.n+Z2.n⟩:evict.Rz) (min (m1+m2) 10000).toNat (y0.fsN v++sgF (⟨x0.la,x0.lc,u,c_u,x0.S⟩:Sn) s0) (fun φ hφ=>(show φ∈(a2.fs ⟨Z2.v,Z2.s,Z2.ev,false⟩++(a.fs ⟨Z1.v,Z1.s,Z1.ev,false⟩++(rowF (pt u x0.S.length) (cellsS x0.S)::(y0.fsN v++sgF x0 s0)))) from mem_r (mem_r ((List.mem_append.1 hφ).elim (fun h=>.tail _ (List.mem_append_left _ h)) fun hφ=>(List.mem_cons.1 hφ).elim (fun e=>e▸.tail _ (mem_r (.head _))) fun hφ=>(List.mem_cons.1 hφ).elim (fun e=>e▸.head _) fun hφ=>.tail _ (mem_r (.tail _ (.tail _ hφ))))))) rfl (by kernel_rfl) (fun β ρ w' hM'=>hZ3▸RUN3 w' (hM.later hM'.below) (fun φ hφ g hg=>(hM'.fact φ (show φ∈(a2.fs ⟨Z2.v,Z2.s,Z2.ev,false⟩++(a.fs ⟨Z1.v,Z1.s,Z1.ev,false⟩++(rowF (pt u x0.S.length) (cellsS x0.S)::(y0.fsN v++sgF x0 s0)))) from mem_r (mem_r (.tail _ (List.mem_append_left _ hφ)))) g hg).2) (fun φ hφ g hg=>(hM'.fact φ (show φ∈(a2.fs ⟨Z2.v,Z2.s,Z2.ev,false⟩++(a.fs ⟨Z1.v,Z1.s,Z1.ev,false⟩++(rowF (pt u x0.S.length) (cellsS x0.S)::(y0.fsN v++sgF x0 s0)))) from mem_r (mem_r ((List.mem_cons.1 hφ).elim (fun e=>e▸.tail _ (mem_r (.head _))) fun hφ=>(List.mem_cons.1 hφ).elim (fun e=>e▸.head _) fun hφ=>.tail _ (mem_r (.tail _ (.tail _ hφ)))))) g hg).2)) (fun G3 b3 a3 ha3 hnew3=>?_)
        conv=>arg 5;whnf
        exact keyF3 a3 ⟨G3,b3,ha3⟩
       ·skip
        conv=>arg 5;whnf
        refine meetRun (f:=19) (⟨Z2.v,Z2.s,Z1.ev++Z2.ev,Z1.n+Z2.n⟩:evict.Rz) (min (m1+m2) 10000).toNat (y0.fsN v++sgF (⟨x0.la,x0.lc,u,c_u,x0.S⟩:Sn) s0) (fun φ hφ=>(show φ∈(a2.fs ⟨Z2.v,Z2.s,Z2.ev,false⟩++(a.fs ⟨Z1.v,Z1.s,Z1.ev,false⟩++(rowF (pt u x0.S.length) (cellsS x0.S)::(y0.fsN v++sgF x0 s0)))) from mem_r (mem_r ((List.mem_append.1 hφ).elim (fun h=>.tail _ (List.mem_append_left _ h)) fun hφ=>(List.mem_cons.1 hφ).elim (fun e=>e▸.tail _ (mem_r (.head _))) fun hφ=>(List.mem_cons.1 hφ).elim (fun e=>e▸.head _) fun hφ=>.tail _ (mem_r (.tail _ (.tail _ hφ))))))) rfl (by kernel_rfl) (fun β ρ w' hM'=>hZ3▸RUN3 w' (hM.later hM'.below) (fun φ hφ g hg=>(hM'.fact φ (show φ∈(a2.fs ⟨Z2.v,Z2.s,Z2.ev,false⟩++(a.fs ⟨Z1.v,Z1.s,Z1.ev,false⟩++(rowF (pt u x0.S.length) (cellsS x0.S)::(y0.fsN v++sgF x0 s0)))) from mem_r (mem_r (.tail _ (List.mem_append_left _ hφ)))) g hg).2) (fun φ hφ g hg=>(hM'.fact φ (show φ∈(a2.fs ⟨Z2.v,Z2.s,Z2.ev,false⟩++(a.fs ⟨Z1.v,Z1.s,Z1.ev,false⟩++(rowF (pt u x0.S.length) (cellsS x0.S)::(y0.fsN v++sgF x0 s0)))) from mem_r (mem_r ((List.mem_cons.1 hφ).elim (fun e=>e▸.tail _ (mem_r (.head _))) fun hφ=>(List.mem_cons.1 hφ).elim (fun e=>e▸.head _) fun hφ=>.tail _ (mem_r (.tail _ (.tail _ hφ)))))) g hg).2)) (fun G3 b3 a3 ha3 hnew3=>?_)
        conv=>arg 5;whnf
        exact keyF3 a3 ⟨G3,b3,ha3⟩
      ·skip
       conv=>arg 5;whnf
       refine meetc (f:=30) (v:=ekV v y0) rfl (by kernel_rfl) (fun β ρ w' hM'=>ownV v y0 w') ?_
       conv=>arg 5;whnf
       refine meetRun (f:=19) (⟨Z2.v,Z2.s,Z1.ev++Z2.ev,Z1.n+Z2.n⟩:evict.Rz) (min (m1+m2) 10000).toNat (y0.fsN v++sgF (⟨x0.la,x0.lc,u,c_u,x0.S⟩:Sn) s0) (fun φ hφ=>(show φ∈(a2.fs ⟨Z2.v,Z2.s,Z2.ev,false⟩++(a.fs ⟨Z1.v,Z1.s,Z1.ev,false⟩++(rowF (pt u x0.S.length) (cellsS x0.S)::(y0.fsN v++sgF x0 s0)))) from mem_r (mem_r ((List.mem_append.1 hφ).elim (fun h=>.tail _ (List.mem_append_left _ h)) fun hφ=>(List.mem_cons.1 hφ).elim (fun e=>e▸.tail _ (mem_r (.head _))) fun hφ=>(List.mem_cons.1 hφ).elim (fun e=>e▸.head _) fun hφ=>.tail _ (mem_r (.tail _ (.tail _ hφ))))))) rfl (by kernel_rfl) (fun β ρ w' hM'=>hZ3▸RUN3 w' (hM.later hM'.below) (fun φ hφ g hg=>(hM'.fact φ (show φ∈(a2.fs ⟨Z2.v,Z2.s,Z2.ev,false⟩++(a.fs ⟨Z1.v,Z1.s,Z1.ev,false⟩++(rowF (pt u x0.S.length) (cellsS x0.S)::(y0.fsN v++sgF x0 s0)))) from mem_r (mem_r (.tail _ (List.mem_append_left _ hφ)))) g hg).2) (fun φ hφ g hg=>(hM'.fact φ (show φ∈(a2.fs ⟨Z2.v,Z2.s,Z2.ev,false⟩++(a.fs ⟨Z1.v,Z1.s,Z1.ev,false⟩++(rowF (pt u x0.S.length) (cellsS x0.S)::(y0.fsN v++sgF x0 s0)))) from mem_r (mem_r ((List.mem_cons.1 hφ).elim (fun e=>e▸.tail _ (mem_r (.head _))) fun hφ=>(List.mem_cons.1 hφ).elim (fun e=>e▸.head _) fun hφ=>.tail _ (mem_r (.tail _ (.tail _ hφ)))))) g hg).2)) (fun G3 b3 a3 ha3 hnew3=>?_)
       conv=>arg 5;whnf
       exact keyF3 a3 ⟨G3,b3,ha3⟩
     ·skip
      conv=>arg 5;whnf
      refine wp_both ?_ ?_
      ·skip
       conv=>arg 5;whnf
       refine meetc (f:=30) (v:=ekV v y0) rfl (by kernel_rfl) (fun β ρ w' hM'=>ownV v y0 w') ?_
       conv=>arg 5;whnf
       refine wp_both ?_ ?_
       ·skip
        conv=>arg 5;whnf
        refine meetRun (f:=19) (⟨Z2.v,Z2.s,Z1.ev++Z2.ev,Z1.n+Z2.n⟩:evict.Rz) (min (m1+m2) 10000).toNat (y0.fsN v++sgF (⟨x0.la,x0.lc,u,c_u,x0.S⟩:Sn) s0) (fun φ hφ=>(show φ∈(a2.fs ⟨Z2.v,Z2.s,Z2.ev,false⟩++(a.fs ⟨Z1.v,Z1.s,Z1.ev,false⟩++(rowF (pt u x0.S.length) (cellsS x0.S)::(y0.fsN v++sgF x0 s0)))) from mem_r (mem_r ((List.mem_append.1 hφ).elim (fun h=>.tail _ (List.mem_append_left _ h)) fun hφ=>(List.mem_cons.1 hφ).elim (fun e=>e▸.tail _ (mem_r (.head _))) fun hφ=>(List.mem_cons.1 hφ).elim (fun e=>e▸.head _) fun hφ=>.tail _ (mem_r (.tail _ (.tail _ hφ))))))) rfl (by kernel_rfl) (fun β ρ w' hM'=>hZ3▸RUN3 w' (hM.later hM'.below) (fun φ hφ g hg=>(hM'.fact φ (show φ∈(a2.fs ⟨Z2.v,Z2.s,Z2.ev,false⟩++(a.fs ⟨Z1.v,Z1.s,Z1.ev,false⟩++(rowF (pt u x0.S.length) (cellsS x0.S)::(y0.fsN v++sgF x0 s0)))) from mem_r (mem_r (.tail _ (List.mem_append_left _ hφ)))) g hg).2) (fun φ hφ g hg=>(hM'.fact φ (show φ∈(a2.fs ⟨Z2.v,Z2.s,Z2.ev,false⟩++(a.fs ⟨Z1.v,Z1.s,Z1.ev,false⟩++(rowF (pt u x0.S.length) (cellsS x0.S)::(y0.fsN v++sgF x0 s0)))) from mem_r (mem_r ((List.mem_cons.1 hφ).elim (fun e=>e▸.tail _ (mem_r (.head _))) fun hφ=>(List.mem_cons.1 hφ).elim (fun e=>e▸.head _) fun hφ=>.tail _ (mem_r (.tail _ (.tail _ hφ)))))) g hg).2)) (fun G3 b3 a3 ha3 hnew3=>?_)
        conv=>arg 5;whnf
        exact keyT3 a3 ⟨G3,b3,ha3⟩
       ·skip
        conv=>arg 5;whnf
        refine meetRun (f:=19) (⟨Z2.v,Z2.s,Z1.ev++Z2.ev,Z1.n+Z2.n⟩:evict.Rz) (min (m1+m2) 10000).toNat (y0.fsN v++sgF (⟨x0.la,x0.lc,u,c_u,x0.S⟩:Sn) s0) (fun φ hφ=>(show φ∈(a2.fs ⟨Z2.v,Z2.s,Z2.ev,false⟩++(a.fs ⟨Z1.v,Z1.s,Z1.ev,false⟩++(rowF (pt u x0.S.length) (cellsS x0.S)::(y0.fsN v++sgF x0 s0)))) from mem_r (mem_r ((List.mem_append.1 hφ).elim (fun h=>.tail _ (List.mem_append_left _ h)) fun hφ=>(List.mem_cons.1 hφ).elim (fun e=>e▸.tail _ (mem_r (.head _))) fun hφ=>(List.mem_cons.1 hφ).elim (fun e=>e▸.head _) fun hφ=>.tail _ (mem_r (.tail _ (.tail _ hφ))))))) rfl (by kernel_rfl) (fun β ρ w' hM'=>hZ3▸RUN3 w' (hM.later hM'.below) (fun φ hφ g hg=>(hM'.fact φ (show φ∈(a2.fs ⟨Z2.v,Z2.s,Z2.ev,false⟩++(a.fs ⟨Z1.v,Z1.s,Z1.ev,false⟩++(rowF (pt u x0.S.length) (cellsS x0.S)::(y0.fsN v++sgF x0 s0)))) from mem_r (mem_r (.tail _ (List.mem_append_left _ hφ)))) g hg).2) (fun φ hφ g hg=>(hM'.fact φ (show φ∈(a2.fs ⟨Z2.v,Z2.s,Z2.ev,false⟩++(a.fs ⟨Z1.v,Z1.s,Z1.ev,false⟩++(rowF (pt u x0.S.length) (cellsS x0.S)::(y0.fsN v++sgF x0 s0)))) from mem_r (mem_r ((List.mem_cons.1 hφ).elim (fun e=>e▸.tail _ (mem_r (.head _))) fun hφ=>(List.mem_cons.1 hφ).elim (fun e=>e▸.head _) fun hφ=>.tail _ (mem_r (.tail _ (.tail _ hφ)))))) g hg).2)) (fun G3 b3 a3 ha3 hnew3=>?_)
        conv=>arg 5;whnf
        exact keyT3 a3 ⟨G3,b3,ha3⟩
      ·skip
       conv=>arg 5;whnf
       refine meetc (f:=30) (v:=ekV v y0) rfl (by kernel_rfl) (fun β ρ w' hM'=>ownV v y0 w') ?_
       conv=>arg 5;whnf
       refine meetRun (f:=19) (⟨Z2.v,Z2.s,Z1.ev++Z2.ev,Z1.n+Z2.n⟩:evict.Rz) (min (m1+m2) 10000).toNat (y0.fsN v++sgF (⟨x0.la,x0.lc,u,c_u,x0.S⟩:Sn) s0) (fun φ hφ=>(show φ∈(a2.fs ⟨Z2.v,Z2.s,Z2.ev,false⟩++(a.fs ⟨Z1.v,Z1.s,Z1.ev,false⟩++(rowF (pt u x0.S.length) (cellsS x0.S)::(y0.fsN v++sgF x0 s0)))) from mem_r (mem_r ((List.mem_append.1 hφ).elim (fun h=>.tail _ (List.mem_append_left _ h)) fun hφ=>(List.mem_cons.1 hφ).elim (fun e=>e▸.tail _ (mem_r (.head _))) fun hφ=>(List.mem_cons.1 hφ).elim (fun e=>e▸.head _) fun hφ=>.tail _ (mem_r (.tail _ (.tail _ hφ))))))) rfl (by kernel_rfl) (fun β ρ w' hM'=>hZ3▸RUN3 w' (hM.later hM'.below) (fun φ hφ g hg=>(hM'.fact φ (show φ∈(a2.fs ⟨Z2.v,Z2.s,Z2.ev,false⟩++(a.fs ⟨Z1.v,Z1.s,Z1.ev,false⟩++(rowF (pt u x0.S.length) (cellsS x0.S)::(y0.fsN v++sgF x0 s0)))) from mem_r (mem_r (.tail _ (List.mem_append_left _ hφ)))) g hg).2) (fun φ hφ g hg=>(hM'.fact φ (show φ∈(a2.fs ⟨Z2.v,Z2.s,Z2.ev,false⟩++(a.fs ⟨Z1.v,Z1.s,Z1.ev,false⟩++(rowF (pt u x0.S.length) (cellsS x0.S)::(y0.fsN v++sgF x0 s0)))) from mem_r (mem_r ((List.mem_cons.1 hφ).elim (fun e=>e▸.tail _ (mem_r (.head _))) fun hφ=>(List.mem_cons.1 hφ).elim (fun e=>e▸.head _) fun hφ=>.tail _ (mem_r (.tail _ (.tail _ hφ)))))) g hg).2)) (fun G3 b3 a3 ha3 hnew3=>?_)
       conv=>arg 5;whnf
       exact keyT3 a3 ⟨G3,b3,ha3⟩
    ·intro a3 ⟨G3,b3,ha3⟩
     obtain ⟨hy3,hx3,he3'⟩:=ha3
     have hy3:a3.y.ok Z2.v.P:=hy3
     have hx3:Sgo a3.x Z2.s:=hx3
     have he3':Sl a3.ea (Z1.ev++Z2.ev).length a3.ec:=he3'
     subst hB5
     have EVS:∀(n:Nat) (e:Option Addr) (c_e:Nat) (w':World),n=(Z1.ev++Z2.ev).length→Sl e n c_e→At w' e (cellsE Z1.ev++cellsE Z2.ev)→At w' (pt a3.ea (Z1.ev++Z2.ev).length) (cellsE (Z1.ev++Z2.ev))→Calls Tryz.prog 24 (List.toArray [.slice e n c_e,.slice a3.ea (Z1.ev++Z2.ev).length a3.ec]) w' fun e' w''=>e'=.returned (.bool true)∧Below w'.heap.size w' w'':=fun n e c_e w' hn hs hr hr2=>by
      subst hn
      rw [← cellsE_app] at hr
      exact revents (Z1.ev++Z2.ev) e c_e a3.ea a3.ec w' hs (at_pt _ hr) he3' hr2
     conv=>arg 5;whnf
     refine wp_rows (cellsE Z1.ev) (by rw [cellsE_length]) (cellsE_one _) (fun β ρ w' hM' ad had j uu hu=>?_) ?_
     ·have h4:=hM'.at_ (show rowF (pt a.ea Z1.ev.length) (cellsE Z1.ev)∈(a3.fs ⟨Z2.v,Z2.s,Z1.ev++Z2.ev,false⟩++(a2.fs ⟨Z2.v,Z2.s,Z2.ev,false⟩++(a.fs ⟨Z1.v,Z1.s,Z1.ev,false⟩++(rowF (pt u x0.S.length) (cellsS x0.S)::(y0.fsN v++sgF x0 s0))))) from mem_r (mem_r (List.mem_append_left _ (.head _))))
      rw [had] at h4
      rw [pt_pos (k:=0) (by have:=(List.getElem?_eq_some_iff.1 hu).1;rw [cellsE_length] at this;omega)] at h4
      exact h4.cell hu
     conv=>arg 5;whnf
     refine wp_must ⟨by show 0+Z1.ev.length≤maxLen;unfold maxLen;omega,by show (0+Z1.ev.length)*72≤140737488355328;omega,fun h=>he1.2.2 h⟩ ?_
     conv=>arg 5;whnf
     refine wp_rows (cellsE Z2.ev) (by rw [cellsE_length]) (cellsE_one _) (fun β ρ w' hM' ad had j uu hu=>?_) ?_
     ·have h4:=hM'.at_ (show rowF (pt a2.ea Z2.ev.length) (cellsE Z2.ev)∈(a3.fs ⟨Z2.v,Z2.s,Z1.ev++Z2.ev,false⟩++(a2.fs ⟨Z2.v,Z2.s,Z2.ev,false⟩++(a.fs ⟨Z1.v,Z1.s,Z1.ev,false⟩++(rowF (pt u x0.S.length) (cellsS x0.S)::(y0.fsN v++sgF x0 s0))))) from mem_r (List.mem_append_left _ (.head _)))
      rw [had] at h4
      rw [pt_pos (k:=0) (by have:=(List.getElem?_eq_some_iff.1 hu).1;rw [cellsE_length] at this;omega)] at h4
      exact h4.cell hu
     conv=>arg 5;whnf
     refine wp_must ⟨by show 0+Z1.ev.length+Z2.ev.length≤maxLen;unfold maxLen;omega,by show (0+Z1.ev.length+Z2.ev.length)*72≤140737488355328;omega,fun h=>he2.2.2 h⟩ ?_
     conv=>arg 5;whnf
     refine meetc (f:=23) (v:=ekV Z2.v a2.y) rfl (by kernel_rfl) (fun β ρ w' hM'=>toldV Z2.v a2.y w') ?_
     conv=>arg 5;whnf
     refine meetc (f:=23) (v:=ekV Z2.v a3.y) rfl (by kernel_rfl) (fun β ρ w' hM'=>toldV Z2.v a3.y w') ?_
     conv=>arg 5;whnf
     refine meetc (f:=22) (v:=.bool true) rfl (by kernel_rfl) (fun β ρ w' hM'=>rsameE Z2.v a2.y a3.y w' hy2 hy3 (fun φ hφ g hg=>(hM'.fact φ (show φ∈(a3.fs ⟨Z2.v,Z2.s,Z1.ev++Z2.ev,false⟩++(a2.fs ⟨Z2.v,Z2.s,Z2.ev,false⟩++(a.fs ⟨Z1.v,Z1.s,Z1.ev,false⟩++(rowF (pt u x0.S.length) (cellsS x0.S)::(y0.fsN v++sgF x0 s0))))) from mem_r (List.mem_append_left _ (.tail _ (List.mem_append_left _ hφ)))) g hg).2) (fun φ hφ g hg=>(hM'.fact φ (show φ∈(a3.fs ⟨Z2.v,Z2.s,Z1.ev++Z2.ev,false⟩++(a2.fs ⟨Z2.v,Z2.s,Z2.ev,false⟩++(a.fs ⟨Z1.v,Z1.s,Z1.ev,false⟩++(rowF (pt u x0.S.length) (cellsS x0.S)::(y0.fsN v++sgF x0 s0))))) from List.mem_append_left _ (.tail _ (List.mem_append_left _ hφ))) g hg).2)) ?_
     conv=>arg 5;whnf
     refine meet1F (f:=21) (n:=a2.x.S.length) (v:=fun a1 c1=>sgV Z2.s ⟨a2.x.la,a2.x.lc,a1,c1,a2.x.S⟩) (xs:=cellsS a2.x.S) rfl (by kernel_rfl) (fun β ρ w' hM'=>toldS Z2.s a2.x w' hx2.1 hx2.2.1 (hM'.at_ (show rowF (pt a2.x.sa a2.x.S.length) (cellsS a2.x.S)∈(a3.fs ⟨Z2.v,Z2.s,Z1.ev++Z2.ev,false⟩++(a2.fs ⟨Z2.v,Z2.s,Z2.ev,false⟩++(a.fs ⟨Z1.v,Z1.s,Z1.ev,false⟩++(rowF (pt u x0.S.length) (cellsS x0.S)::(y0.fsN v++sgF x0 s0))))) from mem_r (List.mem_append_left _ (.tail _ (mem_r (.tail _ (.head _))))))) (by have:=sgs_len hx2;have:=G2.s.2.1;omega)) (fun p c_p h_p f_p=>?_)
     conv=>arg 5;whnf
     refine meet1F (f:=21) (n:=a3.x.S.length) (v:=fun a1 c1=>sgV Z2.s ⟨a3.x.la,a3.x.lc,a1,c1,a3.x.S⟩) (xs:=cellsS a3.x.S) rfl (by kernel_rfl) (fun β ρ w' hM'=>toldS Z2.s a3.x w' hx3.1 hx3.2.1 (hM'.at_ (show rowF (pt a3.x.sa a3.x.S.length) (cellsS a3.x.S)∈(rowF (pt p a2.x.S.length) (cellsS a2.x.S)::(a3.fs ⟨Z2.v,Z2.s,Z1.ev++Z2.ev,false⟩++(a2.fs ⟨Z2.v,Z2.s,Z2.ev,false⟩++(a.fs ⟨Z1.v,Z1.s,Z1.ev,false⟩++(rowF (pt u x0.S.length) (cellsS x0.S)::(y0.fsN v++sgF x0 s0)))))) from .tail _ (List.mem_append_left _ (.tail _ (mem_r (.tail _ (.head _))))))) (by have:=sgs_len hx3;have:=G2.s.2.1;omega)) (fun q c_q h_q f_q=>?_)
     have hxp:Sgo (⟨a2.x.la,a2.x.lc,p,c_p,a2.x.S⟩:Sn) Z2.s:=⟨hx2.1,h_p,hx2.2.2.1,hx2.2.2.2⟩
     have hxq:Sgo (⟨a3.x.la,a3.x.lc,q,c_q,a3.x.S⟩:Sn) Z2.s:=⟨hx3.1,h_q,hx3.2.2.1,hx3.2.2.2⟩
     conv=>arg 5;whnf
     refine meetc (f:=28) (v:=.bool true) rfl (by kernel_rfl) (fun β ρ w' hM'=>rsameS2 rfl (⟨a2.x.la,a2.x.lc,p,c_p,a2.x.S⟩:Sn) (⟨a3.x.la,a3.x.lc,q,c_q,a3.x.S⟩:Sn) w' (sgs_of hM' hxp fun φ hφ=>(show φ∈(rowF (pt q a3.x.S.length) (cellsS a3.x.S)::(rowF (pt p a2.x.S.length) (cellsS a2.x.S)::(a3.fs ⟨Z2.v,Z2.s,Z1.ev++Z2.ev,false⟩++(a2.fs ⟨Z2.v,Z2.s,Z2.ev,false⟩++(a.fs ⟨Z1.v,Z1.s,Z1.ev,false⟩++(rowF (pt u x0.S.length) (cellsS x0.S)::(y0.fsN v++sgF x0 s0))))))) from (List.mem_cons.1 hφ).elim (fun e=>e▸.tail _ (.tail _ (mem_r (List.mem_append_left _ (.tail _ (mem_r (.head _))))))) fun hφ=>(List.mem_cons.1 hφ).elim (fun e=>e▸.tail _ (.head _)) fun hφ=>.tail _ (.tail _ (mem_r (List.mem_append_left _ (.tail _ (mem_r (.tail _ (.tail _ hφ))))))))) (sgs_of hM' hxq fun φ hφ=>(show φ∈(rowF (pt q a3.x.S.length) (cellsS a3.x.S)::(rowF (pt p a2.x.S.length) (cellsS a2.x.S)::(a3.fs ⟨Z2.v,Z2.s,Z1.ev++Z2.ev,false⟩++(a2.fs ⟨Z2.v,Z2.s,Z2.ev,false⟩++(a.fs ⟨Z1.v,Z1.s,Z1.ev,false⟩++(rowF (pt u x0.S.length) (cellsS x0.S)::(y0.fsN v++sgF x0 s0))))))) from (List.mem_cons.1 hφ).elim (fun e=>e▸.tail _ (.tail _ (List.mem_append_left _ (.tail _ (mem_r (.head _)))))) fun hφ=>(List.mem_cons.1 hφ).elim (fun e=>e▸.head _) fun hφ=>.tail _ (.tail _ (List.mem_append_left _ (.tail _ (mem_r (.tail _ (.tail _ hφ))))))))) ?_
     conv=>arg 5;whnf
     refine wp_share fun e c_e h_e f_e=>?_
     have hel:(Z1.ev++Z2.ev).length=Z1.ev.length+Z2.ev.length:=List.length_append
     conv=>arg 5;whnf
     refine meetc (f:=24) (v:=.bool true) rfl (by kernel_rfl) (fun β ρ w' hM'=>EVS _ e c_e w' (by show 0+Z1.ev.length+Z2.ev.length=_;rw [hel];omega) h_e (hM'.at_ (show rowF e ([]++cellsE Z1.ev++cellsE Z2.ev)∈rowF e ([]++cellsE Z1.ev++cellsE Z2.ev)::(rowF (pt q a3.x.S.length) (cellsS a3.x.S)::(rowF (pt p a2.x.S.length) (cellsS a2.x.S)::(a3.fs ⟨Z2.v,Z2.s,Z1.ev++Z2.ev,false⟩++(a2.fs ⟨Z2.v,Z2.s,Z2.ev,false⟩++(a.fs ⟨Z1.v,Z1.s,Z1.ev,false⟩++(rowF (pt u x0.S.length) (cellsS x0.S)::(y0.fsN v++sgF x0 s0))))))) from .head _)) (hM'.at_ (show rowF (pt a3.ea (Z1.ev++Z2.ev).length) (cellsE (Z1.ev++Z2.ev))∈rowF e ([]++cellsE Z1.ev++cellsE Z2.ev)::(rowF (pt q a3.x.S.length) (cellsS a3.x.S)::(rowF (pt p a2.x.S.length) (cellsS a2.x.S)::(a3.fs ⟨Z2.v,Z2.s,Z1.ev++Z2.ev,false⟩++(a2.fs ⟨Z2.v,Z2.s,Z2.ev,false⟩++(a.fs ⟨Z1.v,Z1.s,Z1.ev,false⟩++(rowF (pt u x0.S.length) (cellsS x0.S)::(y0.fsN v++sgF x0 s0))))))) from .tail _ (.tail _ (.tail _ (List.mem_append_left _ (.head _))))))) ?_
     conv=>arg 5;whnf
     refine wp_must ⟨by omega,by omega⟩ ?_
     conv=>arg 5;whnf
     refine wp_g1 (fun _=>?_) (fun h=>by simp at h)
     conv=>arg 5;whnf
     refine meetc (f:=15) (v:=.bool true) rfl (by kernel_rfl) (fun β ρ w' hM'=>evict.live w' (hM.later hM'.below)) ?_
     conv=>arg 5;whnf
     exact wp_back fun β ρ w' hM'=>⟨rfl,hM'.below⟩
    ·intro a3 ⟨G3,b3,ha3⟩
     obtain ⟨hy3,hx3,he3'⟩:=ha3
     have hy3:a3.y.ok Z2.v.P:=hy3
     have hx3:Sgo a3.x Z2.s:=hx3
     have he3':Sl a3.ea (Z1.ev++Z2.ev).length a3.ec:=he3'
     subst hB5
     have EVS:∀(n:Nat) (e:Option Addr) (c_e:Nat) (w':World),n=(Z1.ev++Z2.ev).length→Sl e n c_e→At w' e (cellsE Z1.ev++cellsE Z2.ev)→At w' (pt a3.ea (Z1.ev++Z2.ev).length) (cellsE (Z1.ev++Z2.ev))→Calls Tryz.prog 24 (List.toArray [.slice e n c_e,.slice a3.ea (Z1.ev++Z2.ev).length a3.ec]) w' fun e' w''=>e'=.returned (.bool true)∧Below w'.heap.size w' w'':=fun n e c_e w' hn hs hr hr2=>by
      subst hn
      rw [← cellsE_app] at hr
      exact revents (Z1.ev++Z2.ev) e c_e a3.ea a3.ec w' hs (at_pt _ hr) he3' hr2
     conv=>arg 5;whnf
     refine wp_rows (cellsE Z1.ev) (by rw [cellsE_length]) (cellsE_one _) (fun β ρ w' hM' ad had j uu hu=>?_) ?_
     ·have h4:=hM'.at_ (show rowF (pt a.ea Z1.ev.length) (cellsE Z1.ev)∈(a3.fs ⟨Z2.v,Z2.s,Z1.ev++Z2.ev,false⟩++(a2.fs ⟨Z2.v,Z2.s,Z2.ev,false⟩++(a.fs ⟨Z1.v,Z1.s,Z1.ev,false⟩++(rowF (pt u x0.S.length) (cellsS x0.S)::(y0.fsN v++sgF x0 s0))))) from mem_r (mem_r (List.mem_append_left _ (.head _))))
      rw [had] at h4
      rw [pt_pos (k:=0) (by have:=(List.getElem?_eq_some_iff.1 hu).1;rw [cellsE_length] at this;omega)] at h4
      exact h4.cell hu
     conv=>arg 5;whnf
     refine wp_must ⟨by show 0+Z1.ev.length≤maxLen;unfold maxLen;omega,by show (0+Z1.ev.length)*72≤140737488355328;omega,fun h=>he1.2.2 h⟩ ?_
     conv=>arg 5;whnf
     refine wp_rows (cellsE Z2.ev) (by rw [cellsE_length]) (cellsE_one _) (fun β ρ w' hM' ad had j uu hu=>?_) ?_
     ·have h4:=hM'.at_ (show rowF (pt a2.ea Z2.ev.length) (cellsE Z2.ev)∈(a3.fs ⟨Z2.v,Z2.s,Z1.ev++Z2.ev,false⟩++(a2.fs ⟨Z2.v,Z2.s,Z2.ev,false⟩++(a.fs ⟨Z1.v,Z1.s,Z1.ev,false⟩++(rowF (pt u x0.S.length) (cellsS x0.S)::(y0.fsN v++sgF x0 s0))))) from mem_r (List.mem_append_left _ (.head _)))
      rw [had] at h4
      rw [pt_pos (k:=0) (by have:=(List.getElem?_eq_some_iff.1 hu).1;rw [cellsE_length] at this;omega)] at h4
      exact h4.cell hu
     conv=>arg 5;whnf
     refine wp_must ⟨by show 0+Z1.ev.length+Z2.ev.length≤maxLen;unfold maxLen;omega,by show (0+Z1.ev.length+Z2.ev.length)*72≤140737488355328;omega,fun h=>he2.2.2 h⟩ ?_
     conv=>arg 5;whnf
     refine meetc (f:=23) (v:=ekV Z2.v a2.y) rfl (by kernel_rfl) (fun β ρ w' hM'=>toldV Z2.v a2.y w') ?_
     conv=>arg 5;whnf
     refine meetc (f:=23) (v:=ekV Z2.v a3.y) rfl (by kernel_rfl) (fun β ρ w' hM'=>toldV Z2.v a3.y w') ?_
     conv=>arg 5;whnf
     refine meetc (f:=22) (v:=.bool true) rfl (by kernel_rfl) (fun β ρ w' hM'=>rsameE Z2.v a2.y a3.y w' hy2 hy3 (fun φ hφ g hg=>(hM'.fact φ (show φ∈(a3.fs ⟨Z2.v,Z2.s,Z1.ev++Z2.ev,false⟩++(a2.fs ⟨Z2.v,Z2.s,Z2.ev,false⟩++(a.fs ⟨Z1.v,Z1.s,Z1.ev,false⟩++(rowF (pt u x0.S.length) (cellsS x0.S)::(y0.fsN v++sgF x0 s0))))) from mem_r (List.mem_append_left _ (.tail _ (List.mem_append_left _ hφ)))) g hg).2) (fun φ hφ g hg=>(hM'.fact φ (show φ∈(a3.fs ⟨Z2.v,Z2.s,Z1.ev++Z2.ev,false⟩++(a2.fs ⟨Z2.v,Z2.s,Z2.ev,false⟩++(a.fs ⟨Z1.v,Z1.s,Z1.ev,false⟩++(rowF (pt u x0.S.length) (cellsS x0.S)::(y0.fsN v++sgF x0 s0))))) from List.mem_append_left _ (.tail _ (List.mem_append_left _ hφ))) g hg).2)) ?_
     conv=>arg 5;whnf
     refine meet1F (f:=21) (n:=a2.x.S.length) (v:=fun a1 c1=>sgV Z2.s ⟨a2.x.la,a2.x.lc,a1,c1,a2.x.S⟩) (xs:=cellsS a2.x.S) rfl (by kernel_rfl) (fun β ρ w' hM'=>toldS Z2.s a2.x w' hx2.1 hx2.2.1 (hM'.at_ (show rowF (pt a2.x.sa a2.x.S.length) (cellsS a2.x.S)∈(a3.fs ⟨Z2.v,Z2.s,Z1.ev++Z2.ev,false⟩++(a2.fs ⟨Z2.v,Z2.s,Z2.ev,false⟩++(a.fs ⟨Z1.v,Z1.s,Z1.ev,false⟩++(rowF (pt u x0.S.length) (cellsS x0.S)::(y0.fsN v++sgF x0 s0))))) from mem_r (List.mem_append_left _ (.tail _ (mem_r (.tail _ (.head _))))))) (by have:=sgs_len hx2;have:=G2.s.2.1;omega)) (fun p c_p h_p f_p=>?_)
     conv=>arg 5;whnf
     refine meet1F (f:=21) (n:=a3.x.S.length) (v:=fun a1 c1=>sgV Z2.s ⟨a3.x.la,a3.x.lc,a1,c1,a3.x.S⟩) (xs:=cellsS a3.x.S) rfl (by kernel_rfl) (fun β ρ w' hM'=>toldS Z2.s a3.x w' hx3.1 hx3.2.1 (hM'.at_ (show rowF (pt a3.x.sa a3.x.S.length) (cellsS a3.x.S)∈(rowF (pt p a2.x.S.length) (cellsS a2.x.S)::(a3.fs ⟨Z2.v,Z2.s,Z1.ev++Z2.ev,false⟩++(a2.fs ⟨Z2.v,Z2.s,Z2.ev,false⟩++(a.fs ⟨Z1.v,Z1.s,Z1.ev,false⟩++(rowF (pt u x0.S.length) (cellsS x0.S)::(y0.fsN v++sgF x0 s0)))))) from .tail _ (List.mem_append_left _ (.tail _ (mem_r (.tail _ (.head _))))))) (by have:=sgs_len hx3;have:=G2.s.2.1;omega)) (fun q c_q h_q f_q=>?_)
     have hxp:Sgo (⟨a2.x.la,a2.x.lc,p,c_p,a2.x.S⟩:Sn) Z2.s:=⟨hx2.1,h_p,hx2.2.2.1,hx2.2.2.2⟩
     have hxq:Sgo (⟨a3.x.la,a3.x.lc,q,c_q,a3.x.S⟩:Sn) Z2.s:=⟨hx3.1,h_q,hx3.2.2.1,hx3.2.2.2⟩
     conv=>arg 5;whnf
     refine meetc (f:=28) (v:=.bool true) rfl (by kernel_rfl) (fun β ρ w' hM'=>rsameS2 rfl (⟨a2.x.la,a2.x.lc,p,c_p,a2.x.S⟩:Sn) (⟨a3.x.la,a3.x.lc,q,c_q,a3.x.S⟩:Sn) w' (sgs_of hM' hxp fun φ hφ=>(show φ∈(rowF (pt q a3.x.S.length) (cellsS a3.x.S)::(rowF (pt p a2.x.S.length) (cellsS a2.x.S)::(a3.fs ⟨Z2.v,Z2.s,Z1.ev++Z2.ev,false⟩++(a2.fs ⟨Z2.v,Z2.s,Z2.ev,false⟩++(a.fs ⟨Z1.v,Z1.s,Z1.ev,false⟩++(rowF (pt u x0.S.length) (cellsS x0.S)::(y0.fsN v++sgF x0 s0))))))) from (List.mem_cons.1 hφ).elim (fun e=>e▸.tail _ (.tail _ (mem_r (List.mem_append_left _ (.tail _ (mem_r (.head _))))))) fun hφ=>(List.mem_cons.1 hφ).elim (fun e=>e▸.tail _ (.head _)) fun hφ=>.tail _ (.tail _ (mem_r (List.mem_append_left _ (.tail _ (mem_r (.tail _ (.tail _ hφ))))))))) (sgs_of hM' hxq fun φ hφ=>(show φ∈(rowF (pt q a3.x.S.length) (cellsS a3.x.S)::(rowF (pt p a2.x.S.length) (cellsS a2.x.S)::(a3.fs ⟨Z2.v,Z2.s,Z1.ev++Z2.ev,false⟩++(a2.fs ⟨Z2.v,Z2.s,Z2.ev,false⟩++(a.fs ⟨Z1.v,Z1.s,Z1.ev,false⟩++(rowF (pt u x0.S.length) (cellsS x0.S)::(y0.fsN v++sgF x0 s0))))))) from (List.mem_cons.1 hφ).elim (fun e=>e▸.tail _ (.tail _ (List.mem_append_left _ (.tail _ (mem_r (.head _)))))) fun hφ=>(List.mem_cons.1 hφ).elim (fun e=>e▸.head _) fun hφ=>.tail _ (.tail _ (List.mem_append_left _ (.tail _ (mem_r (.tail _ (.tail _ hφ))))))))) ?_
     conv=>arg 5;whnf
     refine wp_share fun e c_e h_e f_e=>?_
     have hel:(Z1.ev++Z2.ev).length=Z1.ev.length+Z2.ev.length:=List.length_append
     conv=>arg 5;whnf
     refine meetc (f:=24) (v:=.bool true) rfl (by kernel_rfl) (fun β ρ w' hM'=>EVS _ e c_e w' (by show 0+Z1.ev.length+Z2.ev.length=_;rw [hel];omega) h_e (hM'.at_ (show rowF e ([]++cellsE Z1.ev++cellsE Z2.ev)∈rowF e ([]++cellsE Z1.ev++cellsE Z2.ev)::(rowF (pt q a3.x.S.length) (cellsS a3.x.S)::(rowF (pt p a2.x.S.length) (cellsS a2.x.S)::(a3.fs ⟨Z2.v,Z2.s,Z1.ev++Z2.ev,false⟩++(a2.fs ⟨Z2.v,Z2.s,Z2.ev,false⟩++(a.fs ⟨Z1.v,Z1.s,Z1.ev,false⟩++(rowF (pt u x0.S.length) (cellsS x0.S)::(y0.fsN v++sgF x0 s0))))))) from .head _)) (hM'.at_ (show rowF (pt a3.ea (Z1.ev++Z2.ev).length) (cellsE (Z1.ev++Z2.ev))∈rowF e ([]++cellsE Z1.ev++cellsE Z2.ev)::(rowF (pt q a3.x.S.length) (cellsS a3.x.S)::(rowF (pt p a2.x.S.length) (cellsS a2.x.S)::(a3.fs ⟨Z2.v,Z2.s,Z1.ev++Z2.ev,false⟩++(a2.fs ⟨Z2.v,Z2.s,Z2.ev,false⟩++(a.fs ⟨Z1.v,Z1.s,Z1.ev,false⟩++(rowF (pt u x0.S.length) (cellsS x0.S)::(y0.fsN v++sgF x0 s0))))))) from .tail _ (.tail _ (.tail _ (List.mem_append_left _ (.head _))))))) ?_
     conv=>arg 5;whnf
     refine wp_must ⟨by omega,by omega⟩ ?_
     conv=>arg 5;whnf
     refine wp_g1 (fun _=>?_) (fun h=>by simp at h)
     conv=>arg 5;whnf
     refine meetc (f:=15) (v:=.bool true) rfl (by kernel_rfl) (fun β ρ w' hM'=>evict.live w' (hM.later hM'.below)) ?_
     conv=>arg 5;whnf
     exact wp_back fun β ρ w' hM'=>⟨rfl,hM'.below⟩
end Go.Proofs.YtfhgkkcpkcjbmaaGreatDoor.evictParts
