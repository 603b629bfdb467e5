/- The walk of hopperlaw17.EvictIdle. -/
import Derived.Test.YtfhgkkcpkcjbmaaGreatDoorKEvWW
set_option linter.all false
set_option maxHeartbeats 4000000
set_option maxRecDepth 100000
namespace Go.Proofs.YtfhgkkcpkcjbmaaGreatDoor.evictIdle
open Go.RowKit Sx txn queue greedy shard pool Go.Proofs.YtfhgkkcpkcjbmaaGreatDoor.look lock Go.Proofs.YtfhgkkcpkcjbmaaGreatDoor.task Go.Proofs.YtfhgkkcpkcjbmaaGreatDoor.evict
theorem walk (who:Int) (s0:Sg) (x0:Sn) (w:World) (hM:Most w) (hW:Fits who) (hI:SgIn w x0 s0∧s0.fits) :
  Calls Tryz.prog 6 (List.toArray [.int .i64 who,sgV s0 x0]) w fun e w'=>e=.returned (.bool true)∧Below w.heap.size w w':=by
 obtain ⟨hI,_⟩:=hI
 have SM:=fun w' (h:SgIn w' x0 s0)=>small s0 x0 w' h
 have hsm:=fun (hb:smallB x0 s0=true)=>hI.small hb
 generalize smallB x0 s0=sb at *
 refine calls_of_exec Sxe.env_ok.keeps Tryz.func6 rfl [(6,(line [0,2,1,3,4,5,7,6,8,9,10,11,12,13,14,15,16,17,18,19,20,21,22,23,24,25,26,27,28,29],[]))] (schedQ_ok _ _ (by kernel_rfl)) (n0.fs v0.P++sgF x0 s0) (fun φ hφ=>(List.mem_append.1 hφ).elim (fun h=>n0_fs φ h) (hI.facts φ)) ?_
 conv=>arg 5;whnf
 refine meetc (f:=13) (v:=.bool sb) rfl (by kernel_rfl) (fun β ρ w' hM'=>SM w' (hI.mem hM' fun φ hφ=>(show φ∈(n0.fs v0.P++sgF x0 s0) from List.mem_append_right _ hφ))) ?_
 cases sb with
 | false=>
  conv=>arg 5;whnf
  refine meetc (f:=15) (v:=.bool true) rfl (by kernel_rfl) (fun β ρ w' hM'=>evict.live w' (hM.later hM'.below)) ?_
  conv=>arg 5;whnf
  exact wp_back fun β ρ w' hM'=>⟨rfl,hM'.below⟩
 | true=>
  obtain ⟨hx0,hl10,hS10,hq20,hz20⟩:=hsm rfl
  have MY:=fun w hM hS=>rmay s0 x0 w hM hS (fun q hq=>Nat.le_trans (hq20 q hq) (by decide))
  cases hmy:mayS s0 with
  | false=>
   rw [hmy] at MY
   conv=>arg 5;whnf
   refine meetc (f:=14) (v:=.bool false) rfl (by kernel_rfl) (fun β ρ w' hM'=>MY w' (hM.later hM'.below) (sgs_of hM' hx0 fun φ hφ=>(show φ∈(n0.fs v0.P++sgF x0 s0) from List.mem_append_right _ hφ))) ?_
   conv=>arg 5;whnf
   refine meetc (f:=15) (v:=.bool true) rfl (by kernel_rfl) (fun β ρ w' hM'=>evict.live w' (hM.later hM'.below)) ?_
   conv=>arg 5;whnf
   exact wp_back fun β ρ w' hM'=>⟨rfl,hM'.below⟩
  | true=>
   rw [hmy] at MY
   conv=>arg 5;whnf
   refine meetc (f:=14) (v:=.bool true) rfl (by kernel_rfl) (fun β ρ w' hM'=>MY w' (hM.later hM'.below) (sgs_of hM' hx0 fun φ hφ=>(show φ∈(n0.fs v0.P++sgF x0 s0) from List.mem_append_right _ hφ))) ?_
   conv=>arg 5;whnf
   refine wp_br (fun h2=>?_) (fun h2=>?_)
   ·skip
    conv=>arg 5;whnf
    refine meetc (f:=15) (v:=.bool true) rfl (by kernel_rfl) (fun β ρ w' hM'=>evict.live w' (hM.later hM'.below)) ?_
    conv=>arg 5;whnf
    exact wp_back fun β ρ w' hM'=>⟨rfl,hM'.below⟩
   have hw1:1≤who:=by have h3:¬ who<1:=of_decide_eq_false h2;omega
   conv=>arg 5;whnf
   refine meet1F (f:=20) (n:=x0.S.length) (v:=fun a1 c1=>sgV s0 ⟨x0.la,x0.lc,a1,c1,x0.S⟩) (xs:=cellsS x0.S) rfl (by kernel_rfl) (fun β ρ w' hM'=>ownS s0 x0 w' hx0.1 hx0.2.1 (hM'.at_ (show rowF (pt x0.sa x0.S.length) (cellsS x0.S)∈(n0.fs v0.P++sgF x0 s0) from mem_r (.tail _ (.head _)))) (by have:=sgs_len hx0;omega)) (fun u c_u h_u f_u=>?_)
   have hx1:Sgo (⟨x0.la,x0.lc,u,c_u,x0.S⟩:Sn) s0:=⟨hx0.1,h_u,hx0.2.2.1,hx0.2.2.2⟩
   have RUN:=fun w hM hxf=>run_v0 (who:=who) (m:=10000) (n:=10000) rfl hmy (⟨x0.la,x0.lc,u,c_u,x0.S⟩:Sn) w hM hx1 hxf
   have hov:=over_iff hmy
   have hq1:s0.t≤s0.C.so→runZ who ⟨v0,s0,[],0⟩ 10000=⟨v0,s0,[],0⟩:=fun h=>stay_z (by show ableE v0 who s0=false;rw [able_v0 hmy hw1,hov];exact decide_eq_false (by omega)) _
   have hq2:¬ s0.t≤s0.C.so→∀(j:Nat) (hj:j<s0.l.length),(∀i,i<j→s0.l[i]?=some 0)→s0.l[j]≠0→runZ who ⟨v0,s0,[],0⟩ 10000=⟨kj j,lkS s0 who j,[],0⟩:=fun h j hj hz h1=>idle_end hmy hw1 (by rw [hov];exact decide_eq_true (by omega)) hj hz h1 (by omega)
   generalize runZ who ⟨v0,s0,[],0⟩ 10000=Z at *
   obtain ⟨zv,zs,ze,zn⟩:=Z
   conv=>arg 5;whnf
   refine meetEt (Ea.vR zn) (f:=19) ⟨zv,zs,ze,false⟩ (sgF (⟨x0.la,x0.lc,u,c_u,x0.S⟩:Sn) s0) (fun φ hφ=>(show φ∈(rowF (pt u x0.S.length) (cellsS x0.S)::(n0.fs v0.P++sgF x0 s0)) from (List.mem_cons.1 hφ).elim (fun e=>e▸.tail _ (mem_r (.head _))) fun hφ=>(List.mem_cons.1 hφ).elim (fun e=>e▸.head _) fun hφ=>.tail _ (mem_r (.tail _ (.tail _ hφ))))) rfl (by kernel_rfl) (fun β ρ w' hM'=>RUN w' (hM.later hM'.below) (fun φ hφ g hg=>(hM'.fact φ (show φ∈(rowF (pt u x0.S.length) (cellsS x0.S)::(n0.fs v0.P++sgF x0 s0)) from (List.mem_cons.1 hφ).elim (fun e=>e▸.tail _ (mem_r (.head _))) fun hφ=>(List.mem_cons.1 hφ).elim (fun e=>e▸.head _) fun hφ=>.tail _ (mem_r (.tail _ (.tail _ hφ)))) g hg).2)) (fun a ha hnew=>?_)
   obtain ⟨y1,x1,ea,ec⟩:=a
   obtain ⟨hy1,hx2,he1⟩:=ha
   have hy1:y1.ok zv.P:=hy1
   have hx2:Sgo x1 zs:=hx2
   have he1:Sl ea ze.length ec:=he1
   conv=>arg 5;whnf
   refine wp_br (fun h3=>?_) (fun h3=>?_)
   ·have hle:s0.t≤s0.C.so:=of_decide_eq_true h3
    obtain ⟨rfl,rfl,rfl,rfl⟩:v0=zv∧s0=zs∧[]=ze∧0=zn:=by have h:=(hq1 hle).symm;injection h with a b c d;exact ⟨a,b,c,d⟩
    have hx2:Sgo x1 s0:=hx2
    have hy1:y1.ok v0.P:=hy1
    conv=>arg 5;whnf
    refine meetc (f:=23) (v:=ekV v0 y1) rfl (by kernel_rfl) (fun β ρ w' hM'=>toldV v0 y1 w') ?_
    conv=>arg 5;whnf
    refine meetc (f:=22) (v:=.bool true) rfl (by kernel_rfl) (fun β ρ w' hM'=>rsameE v0 y1 n0 w' hy1 n0_ok (fun φ hφ g hg=>(hM'.fact φ (show φ∈((⟨y1,x1,ea,ec⟩:Ea).fs ⟨v0,s0,[],false⟩++(rowF (pt u x0.S.length) (cellsS x0.S)::(n0.fs v0.P++sgF x0 s0))) from List.mem_append_left _ (.tail _ (List.mem_append_left _ hφ))) g hg).2) n0_fs) ?_
    conv=>arg 5;whnf
    refine meet1F (f:=21) (n:=x1.S.length) (v:=fun a1 c1=>sgV s0 ⟨x1.la,x1.lc,a1,c1,x1.S⟩) (xs:=cellsS x1.S) rfl (by kernel_rfl) (fun β ρ w' hM'=>toldS s0 x1 w' hx2.1 hx2.2.1 (hM'.at_ (show rowF (pt x1.sa x1.S.length) (cellsS x1.S)∈((⟨y1,x1,ea,ec⟩:Ea).fs ⟨v0,s0,[],false⟩++(rowF (pt u x0.S.length) (cellsS x0.S)::(n0.fs v0.P++sgF x0 s0))) from List.mem_append_left _ (.tail _ (mem_r (.tail _ (.head _)))))) (by have:=sgs_len hx2;omega)) (fun v c_v h_v f_v=>?_)
    have hx3:Sgo (⟨x1.la,x1.lc,v,c_v,x1.S⟩:Sn) s0:=⟨hx2.1,h_v,hx2.2.2.1,hx2.2.2.2⟩
    conv=>arg 5;whnf
    refine meetc (f:=28) (v:=.bool true) rfl (by kernel_rfl) (fun β ρ w' hM'=>rsameS2 rfl (⟨x1.la,x1.lc,v,c_v,x1.S⟩:Sn) x0 w' (sgs_of hM' hx3 fun φ hφ=>(show φ∈(rowF (pt v x1.S.length) (cellsS x1.S)::((⟨y1,x1,ea,ec⟩:Ea).fs ⟨v0,s0,[],false⟩++(rowF (pt u x0.S.length) (cellsS x0.S)::(n0.fs v0.P++sgF x0 s0)))) from (List.mem_cons.1 hφ).elim (fun e=>e▸.tail _ (List.mem_append_left _ (.tail _ (mem_r (.head _))))) fun hφ=>(List.mem_cons.1 hφ).elim (fun e=>e▸.head _) fun hφ=>.tail _ (List.mem_append_left _ (.tail _ (mem_r (.tail _ (.tail _ hφ))))))) (sgs_of hM' hx0 fun φ hφ=>(show φ∈(rowF (pt v x1.S.length) (cellsS x1.S)::((⟨y1,x1,ea,ec⟩:Ea).fs ⟨v0,s0,[],false⟩++(rowF (pt u x0.S.length) (cellsS x0.S)::(n0.fs v0.P++sgF x0 s0)))) from .tail _ (mem_r (.tail _ (mem_r hφ)))))) ?_
    conv=>arg 5;whnf
    refine meetc (f:=31) (v:=.bool false) rfl (by kernel_rfl) (fun β ρ w' hM'=>able_e7 (v:=v0) (show ableE v0 who s0=false by rw [able_v0 hmy hw1,hov];exact decide_eq_false (by omega)) hmy n0 (⟨x0.la,x0.lc,u,c_u,x0.S⟩:Sn) w' (hM.later hM'.below) hx1 (fun φ hφ g hg=>(hM'.fact φ (show φ∈(rowF (pt v x1.S.length) (cellsS x1.S)::((⟨y1,x1,ea,ec⟩:Ea).fs ⟨v0,s0,[],false⟩++(rowF (pt u x0.S.length) (cellsS x0.S)::(n0.fs v0.P++sgF x0 s0)))) from .tail _ (mem_r ((List.mem_cons.1 hφ).elim (fun e=>e▸.tail _ (mem_r (.head _))) fun hφ=>(List.mem_cons.1 hφ).elim (fun e=>e▸.head _) fun hφ=>.tail _ (mem_r (.tail _ (.tail _ hφ)))))) g hg).2)) ?_
    conv=>arg 5;whnf
    refine meetc (f:=15) (v:=.bool true) rfl (by kernel_rfl) (fun β ρ w' hM'=>evict.live w' (hM.later hM'.below)) ?_
    conv=>arg 5;whnf
    exact wp_back fun β ρ w' hM'=>⟨rfl,hM'.below⟩
   ·have hgt:¬ s0.t≤s0.C.so:=of_decide_eq_false h3
    have hq2:=hq2 hgt
    have hob:overB s0=true:=by rw [hov];exact decide_eq_true (by omega)
    conv=>arg 5;whnf
    refine wp_must ⟨by omega,by omega⟩ ?_
    conv=>arg 5;whnf
    refine loop_rule Sxe.env_ok.keeps [(6,(line [0,2,1,3,4,5,7,6,8,9,10,11,12,13,14,15,16,17,18,19,20,21,22,23,24,25,26,27,28,29],[]))] (schedQ_ok _ _ (by kernel_rfl)) (fun i:Int×Int=>(0≤i.1∧i.1≤s0.l.length)∧((i.2=s0.l.length∧∀k:Nat,i.1≤k→k<s0.l.length→s0.l[k]?=some 0)∨∃j:Nat,i.2=j∧i.1≤j∧j<s0.l.length∧(∀k:Nat,i.1≤k→k<j→s0.l[k]?=some 0)∧s0.l[j]?≠some 0)) (fun i=>(⟨[some ([.v (.int .i64 s0.C.sh),.v (.int .i64 s0.C.so),.v (.int .i64 s0.C.hd),.v (.int .i64 s0.C.per),.v (.int .i64 s0.C.bp),.v (.int .i64 s0.C.fd),.v (.int .i64 s0.C.wk),.v (.int .i64 s0.C.rm),.v (.slice x0.la s0.l.length x0.lc),.v (.int .i64 s0.t),.v (.int .i64 s0.m),.v (.slice x0.sa x0.S.length x0.sc)],29),some ([.v (.int .i64 s0.C.sh),.v (.int .i64 s0.C.so),.v (.int .i64 s0.C.hd),.v (.int .i64 s0.C.per),.v (.int .i64 s0.C.bp),.v (.int .i64 s0.C.fd),.v (.int .i64 s0.C.wk),.v (.int .i64 s0.C.rm),.v (.slice (⟨x0.la,x0.lc,u,c_u,x0.S⟩:Sn).la s0.l.length (⟨x0.la,x0.lc,u,c_u,x0.S⟩:Sn).lc),.v (.int .i64 s0.t),.v (.int .i64 s0.m),.v (.slice (⟨x0.la,x0.lc,u,c_u,x0.S⟩:Sn).sa (⟨x0.la,x0.lc,u,c_u,x0.S⟩:Sn).S.length (⟨x0.la,x0.lc,u,c_u,x0.S⟩:Sn).sc)],56),some ([.v (.int .i64 zv.ph),.v (.int .i64 zv.i),.v (.int .i64 zv.t.s),.v (.int .i64 zv.t.n),.v (.int .i64 zv.t.t),.v (.int .i64 zv.t.c),.v (.int .i64 zv.t.g),.v (.string zv.t.d),.v (.bool zv.P.ch),.v (.int .i64 zv.P.dl),.v (.int .i64 zv.P.s),.v (.int .i64 zv.P.b),.v (.slice y1.a zv.P.l.length y1.c),.v (.slice y1.ea zv.P.ev.length y1.ec),.v (.int .i64 zv.P.r.e),.v (.int .i64 zv.P.r.t.s),.v (.int .i64 zv.P.r.t.n),.v (.int .i64 zv.P.r.t.t),.v (.int .i64 zv.P.r.t.c),.v (.int .i64 zv.P.r.t.g),.v (.string zv.P.r.t.d),.v (.slice y1.ta zv.P.r.l.length y1.tc),.v (.int .i64 zv.P.r.n)],51),some ([.v (.int .i64 zs.C.sh),.v (.int .i64 zs.C.so),.v (.int .i64 zs.C.hd),.v (.int .i64 zs.C.per),.v (.int .i64 zs.C.bp),.v (.int .i64 zs.C.fd),.v (.int .i64 zs.C.wk),.v (.int .i64 zs.C.rm),.v (.slice x1.la zs.l.length x1.lc),.v (.int .i64 zs.t),.v (.int .i64 zs.m),.v (.slice x1.sa x1.S.length x1.sc)],56)],[],((⟨y1,x1,ea,ec⟩:Ea).fs ⟨zv,zs,ze,false⟩++(rowF (pt u x0.S.length) (cellsS x0.S)::(n0.fs v0.P++sgF x0 s0)))⟩,[.v (.int .i64 who),.any,.any,.p 0 0,.any,.p 1 0,.p 2 0,.p 3 0,.v (.slice ea ze.length ec),.v (.int .i64 zn),.v (.int .i64 i.2),.v (.int .i64 (i.1 - 1)),.any,.any,.any,.any,.any,.any,.any,.any,.any,.any,.any,.any,.any,.any,.any,.any,.any,.any,.any,.any,.any,.any,.any,.any,.any,.any,.any,.any,.any,.any,.any,.any,.any,.any,.any,.any,.any,.any,.any,.any,.any,.any,.any,.any,.any,.any,.any,.any,.any,.any,.any,.any,.any,.any,.any,.any,.any,.any,.any,.any,.any,.any,.any,.any,.any,.any,.any,.any,.any,.any,.any,.any,.any,.any,.any,.any,.any,.any,.any,.any,.any,.any,.any,.any,.any,.any,.any,.any,.any,.any,.any,.any,.any,.any,.any,.any,.any,.any,.any,.any,.any,.any,.any,.any,.any,.any,.any,.any,.any,.any])) (fun i=>i.1.toNat) ((s0.l.length:Int),(s0.l.length:Int)) ⟨⟨by omega,Int.le_refl _⟩,.inl ⟨rfl,fun k h1 h2=>by omega⟩⟩ ⟨by repeat' first | exact trivial | refine ⟨.inl rfl,?_⟩ | refine ⟨.inr rfl,?_⟩,⟨by repeat' first | exact trivial | refine ⟨.inl rfl,?_⟩ | refine ⟨.inr rfl,?_⟩,by repeat' first | exact trivial | refine ⟨.inl rfl,?_⟩ | refine ⟨.inr rfl,?_⟩,fun _ h=>h⟩,rfl⟩ ?_
    rintro ⟨k,m⟩ ⟨⟨hk0,hk1⟩,hkm⟩
    have hk0:0≤k:=hk0
    have hk1:k≤s0.l.length:=hk1
    have hkm:(m=s0.l.length∧∀i:Nat,k≤i→i<s0.l.length→s0.l[i]?=some 0)∨∃j:Nat,m=j∧k≤j∧j<s0.l.length∧(∀i:Nat,k≤i→i<j→s0.l[i]?=some 0)∧s0.l[j]?≠some 0:=hkm
    conv=>arg 5;whnf
    refine wp_br (fun h4=>?_) (fun h4=>?_)
    ·have hk2:0≤k - 1:=of_decide_eq_true h4
     obtain ⟨n,rfl⟩:∃n:Nat,k=n+1:=⟨(k - 1).toNat,by omega⟩
     have hn:n<s0.l.length:=by omega
     obtain ⟨z,hz⟩:∃z,s0.l[n]?=some z:=⟨_,List.getElem?_eq_getElem hn⟩
     have e1:(n:Int)+1 - 1=(n:Int):=by omega
     rw [e1]
     conv=>arg 5;whnf
     refine wp_must ⟨by omega,by show (n:Int)<(s0.l.length:Int);omega,hx0.1.some hn⟩ ?_
     conv=>arg 5;whnf
     refine readF (sz:=1) (k:=n) (f:=0) (.int .i64 z) rfl (show rowF (pt x0.la s0.l.length) (ic s0.l)∈((⟨y1,x1,ea,ec⟩:Ea).fs ⟨zv,zs,ze,false⟩++(rowF (pt u x0.S.length) (cellsS x0.S)::(n0.fs v0.P++sgF x0 s0))) from mem_r (.tail _ (mem_r (.head _)))) hn (hx0.1.some hn) (by rw [show n*1+0=n by omega];exact ic_get hz) rfl ?_
     conv=>arg 5;whnf
     refine wp_br (fun h5=>?_) (fun h5=>?_)
     ·have hzz:z≠0:=by have h6:(!(z==0))=true:=h5;simpa using h6
      conv=>arg 5;whnf
      refine wp_must ⟨by show -9223372036854775808≤(n:Int) - 1;omega,by show (n:Int) - 1≤9223372036854775807;omega⟩ ?_
      conv=>arg 5;whnf
      refine wp_end ⟨((n:Int),(n:Int)),⟨⟨by omega,by show (n:Int)≤_;omega⟩,.inr ⟨n,rfl,Int.le_refl _,hn,fun i h1 h2=>by have h1:(n:Int)≤i:=h1;omega,by rw [hz];intro h;exact hzz (Option.some.inj h)⟩⟩,⟨by repeat' first | exact trivial | refine ⟨.inl rfl,?_⟩ | refine ⟨.inr rfl,?_⟩,⟨by repeat' first | exact trivial | refine ⟨.inl rfl,?_⟩ | refine ⟨.inr rfl,?_⟩,by repeat' first | exact trivial | refine ⟨.inl rfl,?_⟩ | refine ⟨.inr rfl,?_⟩,fun _ h=>h⟩,rfl⟩,by show (n:Int).toNat<((n:Int)+1).toNat;omega⟩
     ·have hzz:z=0:=by have h6:(!(z==0))=false:=h5;simpa using h6
      conv=>arg 5;whnf
      refine wp_must ⟨by show -9223372036854775808≤(n:Int) - 1;omega,by show (n:Int) - 1≤9223372036854775807;omega⟩ ?_
      conv=>arg 5;whnf
      refine wp_end ⟨((n:Int),m),⟨⟨by omega,by show (n:Int)≤_;omega⟩,hkm.elim (fun h=>.inl ⟨h.1,fun i h1 h2=>?_⟩) (fun ⟨j,h⟩=>.inr ⟨j,h.1,by have:=h.2.1;show (n:Int)≤_;omega,h.2.2.1,fun i h1 h2=>?_,h.2.2.2.2⟩)⟩,⟨by repeat' first | exact trivial | refine ⟨.inl rfl,?_⟩ | refine ⟨.inr rfl,?_⟩,⟨by repeat' first | exact trivial | refine ⟨.inl rfl,?_⟩ | refine ⟨.inr rfl,?_⟩,by repeat' first | exact trivial | refine ⟨.inl rfl,?_⟩ | refine ⟨.inr rfl,?_⟩,fun _ h=>h⟩,rfl⟩,by show (n:Int).toNat<((n:Int)+1).toNat;omega⟩
      ·by_cases e:i=n
       ·subst e;rw [hz,hzz]
       ·exact h.2 i (by have h1:(n:Int)≤i:=h1;omega) h2
      ·by_cases e:i=n
       ·subst e;rw [hz,hzz]
       ·exact h.2.2.2.1 i (by have h1:(n:Int)≤i:=h1;omega) h2
    ·have hk2:k=0:=by have h6:¬ 0≤k - 1:=of_decide_eq_false h4;omega
     subst hk2
     conv=>arg 5;whnf
     refine wp_br (fun h5=>?_) (fun h5=>?_)
     ·skip
      conv=>arg 5;whnf
      refine meetc (f:=15) (v:=.bool true) rfl (by kernel_rfl) (fun β ρ w' hM'=>evict.live w' (hM.later hM'.below)) ?_
      conv=>arg 5;whnf
      exact wp_back fun β ρ w' hM'=>⟨rfl,hM'.below⟩
     have hne:m≠s0.l.length:=by have h6:(m==(s0.l.length:Int))=false:=h5;simpa using h6
     obtain ⟨j,rfl,_,hj,hj0,hj1⟩:∃j:Nat,m=j∧(0:Int)≤j∧j<s0.l.length∧(∀i:Nat,(0:Int)≤i→i<j→s0.l[i]?=some 0)∧s0.l[j]?≠some 0:=hkm.elim (fun h=>absurd h.1 hne) id
     obtain ⟨rfl,rfl,rfl,rfl⟩:kj j=zv∧lkS s0 who j=zs∧[]=ze∧0=zn:=by have h:=(hq2 j hj (fun i hi=>hj0 i (by omega) hi) (fun h=>hj1 (by rw [List.getElem?_eq_getElem hj,h]))).symm;injection h with a b c d;exact ⟨a,b,c,d⟩
     conv=>arg 5;whnf
     refine wp_g1 (fun _=>?_) (fun h=>absurd h (by show ¬ ((j:Int)==(j:Int))=false;simp))
     conv=>arg 5;whnf
     refine meetc (f:=25) (v:=.int .i64 (pot.overV s0.t s0.m s0.C.so)) rfl (by kernel_rfl) (fun β ρ w' hM'=>pot.rover s0.t s0.m s0.C.so w' ⟨by have:=cfg_bd (may_iff.1 hmy).1;omega,by have:=cfg_bd (may_iff.1 hmy).1;omega⟩) ?_
     conv=>arg 5;whnf
     refine wp_g1 (fun _=>?_) (fun h=>absurd hob (by show ¬ decide (pot.overV s0.t s0.m s0.C.so>0)=true;have h7:decide (pot.overV s0.t s0.m s0.C.so>0)=false:=h;rw [h7];simp))
     conv=>arg 5;whnf
     refine meetc (f:=15) (v:=.bool true) rfl (by kernel_rfl) (fun β ρ w' hM'=>evict.live w' (hM.later hM'.below)) ?_
     conv=>arg 5;whnf
     exact wp_back fun β ρ w' hM'=>⟨rfl,hM'.below⟩
end Go.Proofs.YtfhgkkcpkcjbmaaGreatDoor.evictIdle
