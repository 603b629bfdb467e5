/- The walk of hopperlaw17.EvictAlone. -/
import Derived.Test.YtfhgkkcpkcjbmaaGreatDoorKEvU
import Derived.Test.YtfhgkkcpkcjbmaaGreatDoorKTkRR
set_option linter.all false
set_option maxHeartbeats 4000000
set_option maxRecDepth 100000
namespace Go.Proofs.YtfhgkkcpkcjbmaaGreatDoor.evictAlone
open Go.RowKit Sx txn queue greedy shard pool Go.Proofs.YtfhgkkcpkcjbmaaGreatDoor.look lock Go.Proofs.YtfhgkkcpkcjbmaaGreatDoor.task Go.Proofs.YtfhgkkcpkcjbmaaGreatDoor.evict
theorem zstep {l:List Int} {k:Nat} (h:∀j,j<k→l[j]?=some 0) (hz:l[k]?=some (0:Int)):∀j,j<k+1→l[j]?=some 0:=fun j hj=>by
 rcases Nat.lt_or_ge j k with h1 | h1
 ·exact h j h1
 ·obtain rfl:j=k:=by omega
  exact hz
theorem join_facts {x:Sn} {s:Sg} (hx:Sgo x s):∀z∈srt (fun z:Ac=>z.s) (allS x.S),z.fit∧acF z∈sgF x s:=fun z hz=>by
 have hz2:=(srt_perm (fun z:Ac=>z.s) (allS x.S)).mem_iff.1 hz
 obtain ⟨q,hq,hzq⟩:=List.mem_flatMap.1 hz2
 exact ⟨(hx.2.2.1 q hq).2.2 z hzq,.tail _ (acF_all hz2)⟩
structure Ia where
 k:Nat
 s:Sg
 E:List Ev
 a:Option Addr
 c:Nat
 M:List Ac
structure Ia.ok (who:Int) (s0:Sg) (i:Ia):Prop where
 k:i.k≤60
 z:runZ who ⟨v0,s0,[],0⟩ ((2*s0.l.length+3)*i.k)=⟨v0,i.s,i.E,i.k⟩
 m:mayS i.s=true
 l:i.s.l=s0.l
 C:i.s.C=s0.C
 t:i.s.t=slotsP (joinS i.s.S)
 d:i.s.t+i.k≤60
 e:i.E.length≤i.k
 M:i.M.map acP=joinS i.s.S
 a:Sl i.a i.M.length i.c
 f:∀x∈i.M,x.fit
theorem walk (who:Int) (s0:Sg) (x0:Sn) (w:World) (hM:Most w) (hW:Fits who) (hI:SgIn w x0 s0∧s0.fits) :
  Calls Tryz.prog 3 (List.toArray [.int .i64 who,sgV s0 x0]) w fun e w'=>e=.returned (.bool true)∧Below w.heap.size w w':=by
 obtain ⟨hI,_⟩:=hI
 have SM:=fun w' (h:SgIn w' x0 s0)=>small s0 x0 w' h
 have hsm:=fun (hb:smallB x0 s0=true)=>hI.small hb
 generalize smallB x0 s0=sb at *
 refine calls_of_exec Sxe.env_ok.keeps Tryz.func3 rfl [(7,(line [0,1,2,3,4,5,6,7,8,9,10,11,12,13],[]))] (schedQ_ok _ _ (by kernel_rfl)) (sgF x0 s0) hI.facts ?_
 conv=>arg 5;whnf
 refine meetc (f:=13) (v:=.bool sb) rfl (by kernel_rfl) (fun β ρ w' hM'=>SM w' (hI.mem hM' fun φ hφ=>hφ)) ?_
 cases sb with
 | false=>
  conv=>arg 5;whnf
  refine meetc (f:=15) (v:=.bool true) rfl (by kernel_rfl) (fun β ρ w' hM'=>evict.live w' (hM.later hM'.below)) ?_
  conv=>arg 5;whnf
  exact wp_back fun β ρ w' hM'=>⟨rfl,hM'.below⟩
 | true=>
  obtain ⟨hx0,hl10,hS10,hq20,hz20⟩:=hsm rfl
  have MY:=fun w hM hS=>rmay s0 x0 w hM hS (fun q hq=>Nat.le_trans (hq20 q hq) (by decide))
  cases hmy:mayS s0 with
  | false=>
   rw [hmy] at MY
   conv=>arg 5;whnf
   refine meetc (f:=14) (v:=.bool false) rfl (by kernel_rfl) (fun β ρ w' hM'=>MY w' (hM.later hM'.below) (sgs_of hM' hx0 fun φ hφ=>hφ)) ?_
   conv=>arg 5;whnf
   refine meetc (f:=15) (v:=.bool true) rfl (by kernel_rfl) (fun β ρ w' hM'=>evict.live w' (hM.later hM'.below)) ?_
   conv=>arg 5;whnf
   exact wp_back fun β ρ w' hM'=>⟨rfl,hM'.below⟩
  | true=>
   rw [hmy] at MY
   conv=>arg 5;whnf
   refine meetc (f:=14) (v:=.bool true) rfl (by kernel_rfl) (fun β ρ w' hM'=>MY w' (hM.later hM'.below) (sgs_of hM' hx0 fun φ hφ=>hφ)) ?_
   conv=>arg 5;whnf
   refine wp_g0 (fun h2=>?_) (fun h2=>?_)
   rotate_left
   ·skip
    conv=>arg 5;whnf
    refine meetc (f:=15) (v:=.bool true) rfl (by kernel_rfl) (fun β ρ w' hM'=>evict.live w' (hM.later hM'.below)) ?_
    conv=>arg 5;whnf
    exact wp_back fun β ρ w' hM'=>⟨rfl,hM'.below⟩
   have hw1:1≤who:=by have h3:¬ who<1:=of_decide_eq_false h2;omega
   conv=>arg 5;whnf
   refine wp_br (fun h2=>?_) (fun h2=>?_)
   ·skip
    conv=>arg 5;whnf
    refine meetc (f:=15) (v:=.bool true) rfl (by kernel_rfl) (fun β ρ w' hM'=>evict.live w' (hM.later hM'.below)) ?_
    conv=>arg 5;whnf
    exact wp_back fun β ρ w' hM'=>⟨rfl,hM'.below⟩
   have ht60:s0.t≤60:=by have h3:¬ s0.t>60:=of_decide_eq_false h2;omega
   have hmap:(srt (fun z:Ac=>z.s) (allS x0.S)).map acP=joinS s0.S:=by rw [join_map,hx0.2.2.2]
   have hall:=evict.all_len hmy hx0
   have hxS:=sgs_len hx0
   have RJ:=fun w hS=>rjoin x0.S x0.sa x0.S.length x0.sc w hS (by omega) hall
   have hjf:=join_facts hx0
   have hjl:=srt_len (fun z:Ac=>z.s) (allS x0.S)
   generalize srt (fun z:Ac=>z.s) (allS x0.S)=JL at *
   conv=>arg 5;whnf
   refine meet1F (f:=16) (n:=JL.length) (v:=fun a1 c1=>.slice a1 JL.length c1) (xs:=cellsA JL) rfl (by kernel_rfl) (fun β ρ w' hM'=>RJ w' (sgs_of hM' hx0 fun φ hφ=>hφ).2.1) (fun u c_u h_u f_u=>?_)
   conv=>arg 5;whnf
   refine loop_rule Sxe.env_ok.keeps [(7,(line [0,1,2,3,4,5,6,7,8,9,10,11,12,13],[]))] (schedQ_ok _ _ (by kernel_rfl)) (fun k:Nat=>k≤s0.l.length∧(∀j,j<k→s0.l[j]?=some 0)∧(0<k→s0.t=slotsP (joinS s0.S))) (fun k=>(⟨[some ([.v (.int .i64 s0.C.sh),.v (.int .i64 s0.C.so),.v (.int .i64 s0.C.hd),.v (.int .i64 s0.C.per),.v (.int .i64 s0.C.bp),.v (.int .i64 s0.C.fd),.v (.int .i64 s0.C.wk),.v (.int .i64 s0.C.rm),.v (.slice x0.la s0.l.length x0.lc),.v (.int .i64 s0.t),.v (.int .i64 s0.m),.v (.slice x0.sa x0.S.length x0.sc)],29)],[],(rowF (pt u JL.length) (cellsA JL)::sgF x0 s0)⟩,[.v (.int .i64 who),.any,.any,.p 0 0,.any,.v (.slice u JL.length c_u),.v (.int .i64 k),.any,.any,.any,.any,.any,.any,.any,.any,.any,.any,.any,.any,.any,.any,.any,.any,.any,.any,.any,.any,.any,.any,.any,.any,.any,.any,.any,.any,.any,.any,.any,.any,.any,.any,.any,.any,.any,.any,.any,.any,.any,.any,.any,.any,.any,.any,.any,.any,.any,.any,.any,.any,.any,.any,.any,.any,.any,.any,.any,.any,.any,.any,.any,.any,.any,.any,.any,.any,.any,.any,.any,.any,.any,.any,.any,.any,.any,.any,.any,.any,.any,.any,.any,.any,.any,.any,.any,.any,.any,.any,.any,.any,.any,.any,.any,.any,.any,.any,.any,.any,.any,.any,.any,.any,.any,.any,.any,.any,.any,.any,.any,.any,.any,.any,.any,.any,.any,.any,.any,.any,.any,.any,.any,.any,.any,.any,.any,.any,.any,.any,.any,.any,.any,.any,.any,.any,.any,.any,.any,.any,.any])) (fun k=>s0.l.length - k) 0 ⟨Nat.zero_le _,fun j h=>(by omega),fun h=>(by omega)⟩ ⟨by repeat' first | exact trivial | refine ⟨.inl rfl,?_⟩ | refine ⟨.inr rfl,?_⟩,⟨by repeat' first | exact trivial | refine ⟨.inl rfl,?_⟩ | refine ⟨.inr rfl,?_⟩,by repeat' first | exact trivial | refine ⟨.inl rfl,?_⟩ | refine ⟨.inr rfl,?_⟩,fun _ h=>h⟩,rfl⟩ ?_
   rintro k ⟨hk,hz0,ht0⟩
   conv=>arg 5;whnf
   refine wp_br (fun h3=>?_) (fun h3=>?_)
   ·have hlt:k<s0.l.length:=by have h4:=of_decide_eq_true (show decide ((k:Int)<(s0.l.length:Int))=true from h3);omega
    obtain ⟨z,hz⟩:∃z,s0.l[k]?=some z:=⟨_,List.getElem?_eq_getElem hlt⟩
    conv=>arg 5;whnf
    refine wp_must ⟨by omega,by show (k:Int)<(s0.l.length:Int);omega,hx0.1.some hlt⟩ ?_
    conv=>arg 5;whnf
    refine readF (sz:=1) (k:=k) (f:=0) (.int .i64 z) rfl (show rowF (pt x0.la s0.l.length) (ic s0.l)∈(rowF (pt u JL.length) (cellsA JL)::sgF x0 s0) from .tail _ (.head _)) hlt (hx0.1.some hlt) (by rw [show k*1+0=k by omega];exact ic_get hz) rfl ?_
    conv=>arg 5;whnf
    refine wp_g0 (fun h4=>?_) (fun h4=>?_)
    rotate_left
    ·skip
     conv=>arg 5;whnf
     refine meetc (f:=15) (v:=.bool true) rfl (by kernel_rfl) (fun β ρ w' hM'=>evict.live w' (hM.later hM'.below)) ?_
     conv=>arg 5;whnf
     exact wp_back fun β ρ w' hM'=>⟨rfl,hM'.below⟩
    have hzz:z=0:=by have h5:(!(z==0))=false:=h4;simpa using h5
    conv=>arg 5;whnf
    refine meetc (f:=17) (v:=.int .i64 (slotsA JL)) rfl (by kernel_rfl) (fun β ρ w' hM'=>rslots JL u JL.length c_u w' (⟨h_u,rfl,hM'.at_ (show rowF (pt u JL.length) (cellsA JL)∈(rowF (pt u JL.length) (cellsA JL)::sgF x0 s0) from .head _),fun z hz=>⟨(hjf z hz).1,hM'.at_ (a:=pt z.a z.n) (xs:=cellsL z.l) (show acF z∈(rowF (pt u JL.length) (cellsA JL)::sgF x0 s0) from .tail _ (hjf z hz).2)⟩⟩:Acs w' u JL.length c_u JL) (by omega)) ?_
    conv=>arg 5;whnf
    refine wp_br (fun h5=>?_) (fun h5=>?_)
    ·skip
     conv=>arg 5;whnf
     refine meetc (f:=15) (v:=.bool true) rfl (by kernel_rfl) (fun β ρ w' hM'=>evict.live w' (hM.later hM'.below)) ?_
     conv=>arg 5;whnf
     exact wp_back fun β ρ w' hM'=>⟨rfl,hM'.below⟩
    have hts:s0.t=slotsP (joinS s0.S):=by have h6:(!(s0.t==slotsA JL))=false:=h5;rw [← hmap,← slotsA_P];simpa using h6
    conv=>arg 5;whnf
    refine wp_must ⟨by show -9223372036854775808≤(k:Int)+1;omega,by show (k:Int)+1≤9223372036854775807;omega⟩ ?_
    conv=>arg 5;whnf
    refine wp_end ⟨k+1,⟨hlt,zstep hz0 (hzz▸hz),fun _=>hts⟩,⟨by repeat' first | exact trivial | refine ⟨.inl rfl,?_⟩ | refine ⟨.inr rfl,?_⟩,⟨by repeat' first | exact trivial | refine ⟨.inl rfl,?_⟩ | refine ⟨.inr rfl,?_⟩,by repeat' first | exact trivial | refine ⟨.inl rfl,?_⟩ | refine ⟨.inr rfl,?_⟩,fun _ h=>h⟩,rfl⟩,by show s0.l.length - (k+1)<s0.l.length - k;omega⟩
   have hkn:k=s0.l.length:=by have h4:=of_decide_eq_false (show decide ((k:Int)<(s0.l.length:Int))=false from h3);omega
   subst hkn
   have hsh:=cfg_bd (may_iff.1 hmy).1
   have hlen:=(may_iff.1 hmy).2.1
   have hts:=ht0 (by omega)
   have hl0:∀z∈s0.l,z=0:=fun z hz=>by
    obtain ⟨j,hj⟩:=List.mem_iff_getElem?.1 hz
    have:=hz0 j (List.getElem?_eq_some_iff.1 hj).1
    rw [hj] at this
    exact Option.some.inj this
   conv=>arg 5;whnf
   refine loop_nil 7 122 8 rfl ?_
   refine loop_rule Sxe.env_ok.keeps [(7,(line [0,1,2,3,4,5,6,7,8,9,10,11,12,13],[]))] (schedQ_ok _ _ (by kernel_rfl)) (Ia.ok who s0) (fun i=>(⟨[some ([.v (.int .i64 s0.C.sh),.v (.int .i64 s0.C.so),.v (.int .i64 s0.C.hd),.v (.int .i64 s0.C.per),.v (.int .i64 s0.C.bp),.v (.int .i64 s0.C.fd),.v (.int .i64 s0.C.wk),.v (.int .i64 s0.C.rm),.v (.slice x0.la s0.l.length x0.lc),.v (.int .i64 s0.t),.v (.int .i64 s0.m),.v (.slice x0.sa x0.S.length x0.sc)],29)],[some ⟨122,8,i.E.length,cellsE i.E⟩],acsF i.a i.M.length i.M++sgF x0 s0⟩,[.v (.int .i64 who),.any,.any,.p 0 0,.any,.v (.slice i.a i.M.length i.c),.any,.r 0,.v (.int .i64 i.k),.v (.int .i64 i.k),.any,.any,.any,.any,.any,.any,.any,.any,.any,.any,.any,.any,.any,.any,.any,.any,.any,.any,.any,.any,.any,.any,.any,.any,.any,.any,.any,.any,.any,.any,.any,.any,.any,.any,.any,.any,.any,.any,.any,.any,.any,.any,.any,.any,.any,.any,.any,.any,.any,.any,.any,.any,.any,.any,.any,.any,.any,.any,.any,.any,.any,.any,.any,.any,.any,.any,.any,.any,.any,.any,.any,.any,.any,.any,.any,.any,.any,.any,.any,.any,.any,.any,.any,.any,.any,.any,.any,.any,.any,.any,.any,.any,.any,.any,.any,.any,.any,.any,.any,.any,.any,.any,.any,.any,.any,.any,.any,.any,.any,.any,.any,.any,.any,.any,.any,.any,.any,.any,.any,.any,.any,.any,.any,.any,.any,.any,.any,.any,.any,.any,.any,.any,.any,.any,.any,.any,.any,.any])) (fun i=>60 - i.k) ⟨0,s0,[],u,c_u,JL⟩ ⟨Nat.zero_le _,rfl,hmy,rfl,rfl,hts,by show s0.t+((0:Nat):Int)≤60;omega,Nat.le_refl _,hmap,h_u,fun z hz=>(hjf z hz).1⟩ ⟨by repeat' first | exact trivial | refine ⟨.inl rfl,?_⟩ | refine ⟨.inr rfl,?_⟩,⟨by repeat' first | exact trivial | refine ⟨.inl rfl,?_⟩ | refine ⟨.inr rfl,?_⟩,by repeat' first | exact trivial | refine ⟨.inl rfl,?_⟩ | refine ⟨.inr rfl,?_⟩,fun φ h=>(List.mem_append.1 (show φ∈acsF u JL.length JL++sgF x0 s0 from h)).elim (fun h=>(List.mem_cons.1 h).elim (fun e=>(show φ∈(rowF (pt u JL.length) (cellsA JL)::sgF x0 s0) from List.mem_cons.2 (.inl e))) (fun h=>by obtain ⟨z,hz,rfl⟩:=List.mem_map.1 h;exact (show acF z∈(rowF (pt u JL.length) (cellsA JL)::sgF x0 s0) from .tail _ (hjf z hz).2))) (fun h=>(show φ∈(rowF (pt u JL.length) (cellsA JL)::sgF x0 s0) from .tail _ h))⟩,rfl⟩ ?_
   rintro ⟨k,s,E,a,c,M⟩ ⟨hk,hz,hm,hl,hC,ht,hd,he,hMm,ha,hf⟩
   have hk:k≤60:=hk
   have hz:runZ who ⟨v0,s0,[],0⟩ ((2*s0.l.length+3)*k)=⟨v0,s,E,k⟩:=hz
   have hm:mayS s=true:=hm
   have hl:s.l=s0.l:=hl
   have hC:s.C=s0.C:=hC
   have ht:s.t=slotsP (joinS s.S):=ht
   have hd:s.t+k≤60:=hd
   have he:E.length≤k:=he
   have hMm:M.map acP=joinS s.S:=hMm
   have ha:Sl a M.length c:=ha
   have hf:∀x∈M,x.fit:=hf
   have hM1:M.length≤100000:=by
    have h1:=evict.join_len hm
    rw [← hMm,List.length_map] at h1
    omega
   have hpk:pckB s0.C (M.map acP)=true:=by rw [hMm,← hC];exact join_pck hm (by have:=(may_iff.1 hm).2.2.2.2.2;omega)
   have DO:=fun w hM hA=>do_6w s0.C M a M.length c w hM hA hM1 hpk
   rw [hMm] at DO
   by_cases hov:s.C.so<s.t
   ·obtain ⟨s',r,ev,g1,g2,g3,g4,g5,g6,g7,g8,g9,g10⟩:=round hm hw1 (by rw [hl];exact hl0) ht hov
    have hk60:k<60:=by have:=(may_iff.1 hm).2.2.2.2.2;have:=cfg_bd (may_iff.1 hm).1;omega
    rw [hC] at g2
    rw [g2] at DO
    conv=>arg 5;whnf
    refine wp_br (fun _=>?_) (fun h=>absurd hk60 (by have h9:¬ (k:Int)<60:=of_decide_eq_false h;omega))
    conv=>arg 5;whnf
    refine meetAn (f:=18) (joinS s'.S,r,ev) [] (by simp) rfl (by kernel_rfl) (fun β ρ w' hM'=>DO w' (hM.later hM'.below) (acs_of hM' ha rfl hf fun φ hφ=>(show φ∈(acsF a M.length M++sgF x0 s0) from List.mem_append_left _ hφ))) (fun x hx _=>?_)
    obtain ⟨xa,xc,xL,ta,tc,ea,ec⟩:=x
    obtain ⟨x1,x2,x3,x4,x5⟩:=hx
    have x1:xL.map acP=joinS s'.S:=x1
    have x3:Sl xa xL.length xc:=x3
    have x4:Sl ta r.l.length tc:=x4
    have x5:Sl ea ev.length ec:=x5
    conv=>arg 5;whnf
    refine wp_br (fun h=>absurd h (by show ¬ (!(r.e==0))=true;rw [g3];simp)) (fun _=>?_)
    conv=>arg 5;whnf
    refine wp_must ⟨by show -9223372036854775808≤(k:Int)+1;omega,by show (k:Int)+1≤9223372036854775807;omega⟩ ?_
    conv=>arg 5;whnf
    refine ⟨cellsE ev,by rw [cellsE_length],cellsE_one _,fun β ρ w' hM' ad had j uu hu=>?_,?_⟩
    ·have h4:=hM'.at_ (show rowF (pt ea ev.length) (cellsE ev)∈(((⟨xa,xc,xL,ta,tc,ea,ec⟩:An).fs (joinS s'.S,r,ev))++(acsF a M.length M++sgF x0 s0)) from List.mem_append_left _ (.tail _ (.head _)))
     subst had
     rw [pt_pos (k:=0) (by have:=(List.getElem?_eq_some_iff.1 hu).1;rw [cellsE_length] at this;omega)] at h4
     exact h4.cell hu
    conv=>arg 5;whnf
    refine wp_must ⟨by show E.length+ev.length≤maxLen;unfold maxLen;omega,by show (E.length+ev.length)*72≤140737488355328;omega,fun h=>x5.2.2 h⟩ ?_
    conv=>arg 5;whnf
    refine wp_must ⟨by show -9223372036854775808≤(k:Int)+1;omega,by show (k:Int)+1≤9223372036854775807;omega⟩ ?_
    have ec1:cellsE (E++ev)=cellsE E++cellsE ev:=cellsE_app _ _
    have el:(E++ev).length=E.length+ev.length:=List.length_append
    have hz':runZ who ⟨v0,s0,[],0⟩ ((2*s0.l.length+3)*(k+1))=⟨v0,s',E++ev,(k+1:Nat)⟩:=by
     rw [Nat.mul_succ,run_add,hz,run_shift,← hl,g1]
     rfl
    conv=>arg 5;whnf
    refine wp_end ⟨⟨k+1,s',E++ev,xa,xc,xL⟩,⟨hk60,hz',g4,g5.trans hl,g6.trans hC,g7,by show s'.t+((k+1:Nat):Int)≤60;omega,by show (E++ev).length≤k+1;omega,x1,x3,x2⟩,⟨by repeat' first | exact trivial | refine ⟨.inl rfl,?_⟩ | refine ⟨.inr rfl,?_⟩ | refine ⟨.inr (congrArg (fun z:Int=>Sx.T.v (Value.int .i64 z)) (show ((k+1:Nat):Int)=(k:Int)+1 from rfl).symm),?_⟩,⟨by repeat' first | exact trivial | refine ⟨.inl rfl,?_⟩ | refine ⟨.inr rfl,?_⟩ | refine ⟨.inr (congrArg (fun z:Int=>Sx.T.v (Value.int .i64 z)) (show ((k+1:Nat):Int)=(k:Int)+1 from rfl).symm),?_⟩,by simp only [];rw [ec1,el];repeat' first | exact trivial | refine ⟨.inl rfl,?_⟩ | refine ⟨.inr rfl,?_⟩ | refine ⟨.inr (congrArg (fun z:Int=>Sx.T.v (Value.int .i64 z)) (show ((k+1:Nat):Int)=(k:Int)+1 from rfl).symm),?_⟩,fun φ h=>(List.mem_append.1 (show φ∈acsF xa xL.length xL++sgF x0 s0 from h)).elim (fun h=>(show φ∈(((⟨xa,xc,xL,ta,tc,ea,ec⟩:An).fs (joinS s'.S,r,ev))++(acsF a M.length M++sgF x0 s0)) from List.mem_append_left _ (.tail _ (.tail _ h)))) (fun h=>(show φ∈(((⟨xa,xc,xL,ta,tc,ea,ec⟩:An).fs (joinS s'.S,r,ev))++(acsF a M.length M++sgF x0 s0)) from List.mem_append_right _ (List.mem_append_right _ h)))⟩,rfl⟩,by show 60 - (k+1)<60 - k;omega⟩
   ·obtain ⟨hno,hab⟩:=round_no (who:=who) hm ht hov
    rw [hC] at hno
    rw [hno] at DO
    have hrun:runZ who ⟨v0,s0,[],0⟩ 10000=⟨v0,s,E,k⟩:=by
     have h8:=(may_small hmy).1
     have h9:(2*s0.l.length+3)*k≤19*60:=Nat.mul_le_mul (by omega) hk
     have e:=run_add who ⟨v0,s0,[],0⟩ ((2*s0.l.length+3)*k) (10000 - (2*s0.l.length+3)*k)
     rw [show (2*s0.l.length+3)*k+(10000 - (2*s0.l.length+3)*k)=10000 by omega,hz] at e
     rw [e]
     exact stay_z hab _
    have RUN:=fun x w hM hx hxf=>run_v0 (who:=who) (m:=10000) (n:=10000) rfl hmy x w hM hx hxf
    rw [hrun] at RUN
    have hS8:=(may_small hm).2
    have hjlm:=evict.join_len hm
    have hso:=hC
    conv=>arg 5;whnf
    refine wp_br (fun _=>?_) (fun _=>?_)
    ·skip
     conv=>arg 5;whnf
     refine meetAn (f:=18) (failP (joinS s.S) 7) [] (by simp) rfl (by kernel_rfl) (fun β ρ w' hM'=>DO w' (hM.later hM'.below) (acs_of hM' ha rfl hf fun φ hφ=>(show φ∈(acsF a M.length M++sgF x0 s0) from List.mem_append_left _ hφ))) (fun xx _ _=>?_)
     conv=>arg 5;whnf
     refine meet1F (f:=20) (n:=x0.S.length) (v:=fun a1 c1=>sgV s0 ⟨x0.la,x0.lc,a1,c1,x0.S⟩) (xs:=cellsS x0.S) rfl (by kernel_rfl) (fun β ρ w' hM'=>ownS s0 x0 w' hx0.1 hx0.2.1 (hM'.at_ (show rowF (pt x0.sa x0.S.length) (cellsS x0.S)∈(xx.fs (failP (joinS s.S) 7)++(acsF a M.length M++sgF x0 s0)) from List.mem_append_right _ (List.mem_append_right _ (.tail _ (.head _))))) (by omega)) (fun v c_v h_v f_v=>?_)
     have hx1:Sgo (⟨x0.la,x0.lc,v,c_v,x0.S⟩:Sn) s0:=⟨hx0.1,h_v,hx0.2.2.1,hx0.2.2.2⟩
     conv=>arg 5;whnf
     refine meetEt (Ea.vR (k:Int)) (f:=19) ⟨v0,s,E,false⟩ (sgF (⟨x0.la,x0.lc,v,c_v,x0.S⟩:Sn) s0) (fun φ hφ=>(show φ∈(rowF (pt v x0.S.length) (cellsS x0.S)::(xx.fs (failP (joinS s.S) 7)++(acsF a M.length M++sgF x0 s0))) from (List.mem_cons.1 hφ).elim (fun e=>e▸.tail _ (List.mem_append_right _ (List.mem_append_right _ (.head _)))) fun hφ=>(List.mem_cons.1 hφ).elim (fun e=>e▸.head _) fun hφ=>.tail _ (List.mem_append_right _ (List.mem_append_right _ (.tail _ (.tail _ hφ)))))) rfl (by kernel_rfl) (fun β ρ w' hM'=>RUN (⟨x0.la,x0.lc,v,c_v,x0.S⟩:Sn) w' (hM.later hM'.below) hx1 (fun φ hφ g hg=>(hM'.fact φ (show φ∈(rowF (pt v x0.S.length) (cellsS x0.S)::(xx.fs (failP (joinS s.S) 7)++(acsF a M.length M++sgF x0 s0))) from (List.mem_cons.1 hφ).elim (fun e=>e▸.tail _ (List.mem_append_right _ (List.mem_append_right _ (.head _)))) fun hφ=>(List.mem_cons.1 hφ).elim (fun e=>e▸.head _) fun hφ=>.tail _ (List.mem_append_right _ (List.mem_append_right _ (.tail _ (.tail _ hφ))))) g hg).2)) (fun b hb hnew=>?_)
     obtain ⟨y1,x1,fa,fc⟩:=b
     obtain ⟨hy1,hx2,hf1⟩:=hb
     have hy1:y1.ok v0.P:=hy1
     have hx2:Sgo x1 s:=hx2
     have hf1:Sl fa E.length fc:=hf1
     have hxl2:=sgs_len hx2
     conv=>arg 5;whnf
     refine meet1F (f:=21) (n:=x1.S.length) (v:=fun a1 c1=>sgV s ⟨x1.la,x1.lc,a1,c1,x1.S⟩) (xs:=cellsS x1.S) rfl (by kernel_rfl) (fun β ρ w' hM'=>toldS s x1 w' hx2.1 hx2.2.1 (hM'.at_ (show rowF (pt x1.sa x1.S.length) (cellsS x1.S)∈((⟨y1,x1,fa,fc⟩:Ea).fs ⟨v0,s,E,false⟩++(rowF (pt v x0.S.length) (cellsS x0.S)::(xx.fs (failP (joinS s.S) 7)++(acsF a M.length M++sgF x0 s0)))) from List.mem_append_left _ (.tail _ (List.mem_append_right _ (.tail _ (.head _)))))) (by omega)) (fun t c_t h_t f_t=>?_)
     have hx9:Sgo (⟨x1.la,x1.lc,t,c_t,x1.S⟩:Sn) s:=⟨hx2.1,h_t,hx2.2.2.1,hx2.2.2.2⟩
     conv=>arg 5;whnf
     refine meetc (f:=23) (v:=ekV v0 y1) rfl (by kernel_rfl) (fun β ρ w' hM'=>toldV v0 y1 w') ?_
     conv=>arg 5;whnf
     refine meetc (f:=22) (v:=.bool true) rfl (by kernel_rfl) (fun β ρ w' hM'=>rsameE v0 y1 n0 w' hy1 n0_ok (fun φ hφ g hg=>(hM'.fact φ (show φ∈(rowF (pt t x1.S.length) (cellsS x1.S)::((⟨y1,x1,fa,fc⟩:Ea).fs ⟨v0,s,E,false⟩++(rowF (pt v x0.S.length) (cellsS x0.S)::(xx.fs (failP (joinS s.S) 7)++(acsF a M.length M++sgF x0 s0))))) from .tail _ (List.mem_append_left _ (.tail _ (List.mem_append_left _ hφ)))) g hg).2) n0_fs) ?_
     conv=>arg 5;whnf
     refine wp_share fun zz c_z h_z f_z=>?_
     conv=>arg 5;whnf
     refine meetc (f:=24) (v:=.bool true) rfl (by kernel_rfl) (fun β ρ w' hM'=>revents E fa fc zz c_z w' hf1 (hM'.at_ (show rowF (pt fa E.length) (cellsE E)∈(rowF zz (cellsE E)::(rowF (pt t x1.S.length) (cellsS x1.S)::((⟨y1,x1,fa,fc⟩:Ea).fs ⟨v0,s,E,false⟩++(rowF (pt v x0.S.length) (cellsS x0.S)::(xx.fs (failP (joinS s.S) 7)++(acsF a M.length M++sgF x0 s0)))))) from .tail _ (.tail _ (List.mem_append_left _ (.head _))))) h_z (atPt _ (hM'.at_ (show rowF zz (cellsE E)∈(rowF zz (cellsE E)::(rowF (pt t x1.S.length) (cellsS x1.S)::((⟨y1,x1,fa,fc⟩:Ea).fs ⟨v0,s,E,false⟩++(rowF (pt v x0.S.length) (cellsS x0.S)::(xx.fs (failP (joinS s.S) 7)++(acsF a M.length M++sgF x0 s0)))))) from .head _)))) ?_
     conv=>arg 5;whnf
     refine wp_g0 (fun _=>?_) (fun h=>absurd h (by show ¬ (!((k:Int)==(k:Int)))=true;simp))
     conv=>arg 5;whnf
     refine meetc (f:=14) (v:=.bool true) rfl (by kernel_rfl) (fun β ρ w' hM'=>hm▸rmay s (⟨x1.la,x1.lc,t,c_t,x1.S⟩:Sn) w' (hM.later hM'.below) (sgs_of hM' hx9 fun φ hφ=>(show φ∈(rowF zz (cellsE E)::(rowF (pt t x1.S.length) (cellsS x1.S)::((⟨y1,x1,fa,fc⟩:Ea).fs ⟨v0,s,E,false⟩++(rowF (pt v x0.S.length) (cellsS x0.S)::(xx.fs (failP (joinS s.S) 7)++(acsF a M.length M++sgF x0 s0)))))) from (List.mem_cons.1 hφ).elim (fun e=>e▸.tail _ (.tail _ (List.mem_append_left _ (.tail _ (List.mem_append_right _ (.head _)))))) fun hφ=>(List.mem_cons.1 hφ).elim (fun e=>e▸.tail _ (.head _)) fun hφ=>.tail _ (.tail _ (List.mem_append_left _ (.tail _ (List.mem_append_right _ (.tail _ (.tail _ hφ)))))))) (fun q hq=>Nat.le_trans (sgs_n hx9 (n:=256) (fun q hq=>by obtain ⟨j,hj⟩:=List.mem_iff_getElem?.1 hq;exact may_len hm hj) q hq) (by decide))) ?_
     conv=>arg 5;whnf
     refine meetc (f:=25) (v:=.int .i64 (pot.overV s.t s.m s0.C.so)) rfl (by kernel_rfl) (fun β ρ w' hM'=>pot.rover s.t s.m s0.C.so w' ⟨by omega,by omega⟩) ?_
     conv=>arg 5;whnf
     refine wp_br (fun h=>absurd h (by show ¬ (!(pot.overV s.t s.m s0.C.so==0))=true;unfold pot.overV;rw [if_neg (fun q=>hov (by rw [hC];exact q.2.2))];simp)) (fun _=>?_)
     conv=>arg 5;whnf
     refine loop_rule Sxe.env_ok.keeps [(7,(line [0,1,2,3,4,5,6,7,8,9,10,11,12,13],[]))] (schedQ_ok _ _ (by kernel_rfl)) (fun j:Nat=>j≤s.l.length) (fun j=>(⟨[some ([.v (.int .i64 s0.C.sh),.v (.int .i64 s0.C.so),.v (.int .i64 s0.C.hd),.v (.int .i64 s0.C.per),.v (.int .i64 s0.C.bp),.v (.int .i64 s0.C.fd),.v (.int .i64 s0.C.wk),.v (.int .i64 s0.C.rm),.v (.slice x0.la s0.l.length x0.lc),.v (.int .i64 s0.t),.v (.int .i64 s0.m),.v (.slice x0.sa x0.S.length x0.sc)],29),some ([.v (.int .i64 7),.v (.int .i64 0),.v (.int .i64 0),.v (.int .i64 0),.v (.int .i64 0),.v (.int .i64 0),.v (.string ByteArray.empty),.v (.slice xx.ta 0 xx.tc),.v (.int .i64 0)],41),some ([.v (.int .i64 v0.ph),.v (.int .i64 v0.i),.v (.int .i64 v0.t.s),.v (.int .i64 v0.t.n),.v (.int .i64 v0.t.t),.v (.int .i64 v0.t.c),.v (.int .i64 v0.t.g),.v (.string v0.t.d),.v (.bool v0.P.ch),.v (.int .i64 v0.P.dl),.v (.int .i64 v0.P.s),.v (.int .i64 v0.P.b),.v (.slice y1.a v0.P.l.length y1.c),.v (.slice y1.ea v0.P.ev.length y1.ec),.v (.int .i64 v0.P.r.e),.v (.int .i64 v0.P.r.t.s),.v (.int .i64 v0.P.r.t.n),.v (.int .i64 v0.P.r.t.t),.v (.int .i64 v0.P.r.t.c),.v (.int .i64 v0.P.r.t.g),.v (.string v0.P.r.t.d),.v (.slice y1.ta v0.P.r.l.length y1.tc),.v (.int .i64 v0.P.r.n)],51),some ([.v (.int .i64 s.C.sh),.v (.int .i64 s.C.so),.v (.int .i64 s.C.hd),.v (.int .i64 s.C.per),.v (.int .i64 s.C.bp),.v (.int .i64 s.C.fd),.v (.int .i64 s.C.wk),.v (.int .i64 s.C.rm),.v (.slice x1.la s.l.length x1.lc),.v (.int .i64 s.t),.v (.int .i64 s.m),.v (.slice x1.sa x1.S.length x1.sc)],56),some ([.v (.int .i64 s.C.sh),.v (.int .i64 s.C.so),.v (.int .i64 s.C.hd),.v (.int .i64 s.C.per),.v (.int .i64 s.C.bp),.v (.int .i64 s.C.fd),.v (.int .i64 s.C.wk),.v (.int .i64 s.C.rm),.v (.slice (⟨x1.la,x1.lc,t,c_t,x1.S⟩:Sn).la s.l.length (⟨x1.la,x1.lc,t,c_t,x1.S⟩:Sn).lc),.v (.int .i64 s.t),.v (.int .i64 s.m),.v (.slice (⟨x1.la,x1.lc,t,c_t,x1.S⟩:Sn).sa (⟨x1.la,x1.lc,t,c_t,x1.S⟩:Sn).S.length (⟨x1.la,x1.lc,t,c_t,x1.S⟩:Sn).sc)],29)],[none],(rowF zz (cellsE E)::(rowF (pt t x1.S.length) (cellsS x1.S)::((⟨y1,x1,fa,fc⟩:Ea).fs ⟨v0,s,E,false⟩++(rowF (pt v x0.S.length) (cellsS x0.S)::(xx.fs (failP (joinS s.S) 7)++(acsF a M.length M++sgF x0 s0))))))⟩,[.v (.int .i64 who),.any,.any,.p 0 0,.any,.v (.slice a M.length c),.any,.any,.any,.any,.any,.any,.any,.any,.any,.any,.any,.p 4 0,.v (.int .i64 j),.any,.any,.any,.any,.any,.any,.any,.any,.any,.any,.any,.any,.any,.any,.any,.any,.any,.any,.any,.any,.any,.any,.any,.any,.any,.any,.any,.any,.any,.any,.any,.any,.any,.any,.any,.any,.any,.any,.any,.any,.any,.any,.any,.any,.any,.any,.any,.any,.any,.any,.any,.any,.any,.any,.any,.any,.any,.any,.any,.any,.any,.any,.any,.any,.any,.any,.any,.any,.any,.any,.any,.any,.any,.any,.any,.any,.any,.any,.any,.any,.any,.any,.any,.any,.any,.any,.any,.any,.any,.any,.any,.any,.any,.any,.any,.any,.any,.any,.any,.any,.any,.any,.any,.any,.any,.any,.any,.any,.any,.any,.any,.any,.any,.any,.any,.any,.any,.any,.any,.any,.any,.any,.any,.any,.any,.any,.any,.any,.any])) (fun j=>s.l.length - j) 0 (Nat.zero_le _) ⟨by repeat' first | exact trivial | refine ⟨.inl rfl,?_⟩ | refine ⟨.inr rfl,?_⟩,⟨by repeat' first | exact trivial | refine ⟨.inl rfl,?_⟩ | refine ⟨.inr rfl,?_⟩,by repeat' first | exact trivial | refine ⟨.inl rfl,?_⟩ | refine ⟨.inr rfl,?_⟩,fun _ h=>h⟩,rfl⟩ ?_
     intro j hj
     conv=>arg 5;whnf
     refine wp_br (fun h3=>?_) (fun h3=>?_)
     ·have hlt:j<s.l.length:=by have h4:=of_decide_eq_true (show decide ((j:Int)<(s.l.length:Int))=true from h3);omega
      obtain ⟨z,hzj⟩:∃z,s.l[j]?=some z:=⟨_,List.getElem?_eq_getElem hlt⟩
      have hl63:=(may_small hm).1
      have hz0:z=0:=hl0 z (hl▸List.mem_of_getElem? hzj)
      conv=>arg 5;whnf
      refine wp_must ⟨by omega,by show (j:Int)<(s.l.length:Int);omega,hx2.1.some hlt⟩ ?_
      conv=>arg 5;whnf
      refine readF (sz:=1) (k:=j) (f:=0) (.int .i64 z) rfl (show rowF (pt x1.la s.l.length) (ic s.l)∈(rowF zz (cellsE E)::(rowF (pt t x1.S.length) (cellsS x1.S)::((⟨y1,x1,fa,fc⟩:Ea).fs ⟨v0,s,E,false⟩++(rowF (pt v x0.S.length) (cellsS x0.S)::(xx.fs (failP (joinS s.S) 7)++(acsF a M.length M++sgF x0 s0)))))) from .tail _ (.tail _ (List.mem_append_left _ (.tail _ (List.mem_append_right _ (.head _)))))) hlt (hx2.1.some hlt) (by rw [show j*1+0=j by omega];exact ic_get hzj) rfl ?_
      conv=>arg 5;whnf
      refine wp_br (fun h=>absurd h (by show ¬ (!(z==0))=true;rw [hz0];simp)) (fun _=>?_)
      conv=>arg 5;whnf
      refine wp_must ⟨by show -9223372036854775808≤(j:Int)+1;omega,by show (j:Int)+1≤9223372036854775807;omega⟩ ?_
      conv=>arg 5;whnf
      refine wp_end ⟨j+1,hlt,⟨by repeat' first | exact trivial | refine ⟨.inl rfl,?_⟩ | refine ⟨.inr rfl,?_⟩,⟨by repeat' first | exact trivial | refine ⟨.inl rfl,?_⟩ | refine ⟨.inr rfl,?_⟩,by repeat' first | exact trivial | refine ⟨.inl rfl,?_⟩ | refine ⟨.inr rfl,?_⟩,fun _ h=>h⟩,rfl⟩,by show s.l.length - (j+1)<s.l.length - j;omega⟩
     ·skip
      have hmap2:(srt (fun z:Ac=>z.s) (allS x1.S)).map acP=joinS s.S:=by rw [join_map,hx2.2.2.2]
      have hall2:=evict.all_len hm hx2
      have RJ2:=fun u cu w hS=>rjoin x1.S u x1.S.length cu w hS (by omega) hall2
      have hjf2:=join_facts hx2
      generalize srt (fun z:Ac=>z.s) (allS x1.S)=JY at *
      conv=>arg 5;whnf
      refine meet1F (f:=16) (n:=JY.length) (v:=fun a1 c1=>.slice a1 JY.length c1) (xs:=cellsA JY) rfl (by kernel_rfl) (fun β ρ w' hM'=>RJ2 t c_t w' (sgs_of hM' hx9 fun φ hφ=>(show φ∈(rowF zz (cellsE E)::(rowF (pt t x1.S.length) (cellsS x1.S)::((⟨y1,x1,fa,fc⟩:Ea).fs ⟨v0,s,E,false⟩++(rowF (pt v x0.S.length) (cellsS x0.S)::(xx.fs (failP (joinS s.S) 7)++(acsF a M.length M++sgF x0 s0)))))) from (List.mem_cons.1 hφ).elim (fun e=>e▸.tail _ (.tail _ (List.mem_append_left _ (.tail _ (List.mem_append_right _ (.head _)))))) fun hφ=>(List.mem_cons.1 hφ).elim (fun e=>e▸.tail _ (.head _)) fun hφ=>.tail _ (.tail _ (List.mem_append_left _ (.tail _ (List.mem_append_right _ (.tail _ (.tail _ hφ)))))))).2.1) (fun g c_g h_g f_g=>?_)
      conv=>arg 5;whnf
      refine meetc (f:=26) (v:=.bool true) rfl (by kernel_rfl) (fun β ρ w' hM'=>raccounts JY M (hmap2.trans hMm.symm) g JY.length c_g a M.length c w' (⟨h_g,rfl,hM'.at_ (show rowF (pt g JY.length) (cellsA JY)∈(rowF (pt g JY.length) (cellsA JY)::(rowF zz (cellsE E)::(rowF (pt t x1.S.length) (cellsS x1.S)::((⟨y1,x1,fa,fc⟩:Ea).fs ⟨v0,s,E,false⟩++(rowF (pt v x0.S.length) (cellsS x0.S)::(xx.fs (failP (joinS s.S) 7)++(acsF a M.length M++sgF x0 s0))))))) from .head _),fun z hz=>⟨(hjf2 z hz).1,hM'.at_ (a:=pt z.a z.n) (xs:=cellsL z.l) (show acF z∈(rowF (pt g JY.length) (cellsA JY)::(rowF zz (cellsE E)::(rowF (pt t x1.S.length) (cellsS x1.S)::((⟨y1,x1,fa,fc⟩:Ea).fs ⟨v0,s,E,false⟩++(rowF (pt v x0.S.length) (cellsS x0.S)::(xx.fs (failP (joinS s.S) 7)++(acsF a M.length M++sgF x0 s0))))))) from .tail _ (.tail _ (.tail _ (List.mem_append_left _ (.tail _ (List.mem_append_right _ ((hjf2 z hz).2)))))))⟩⟩:Acs w' g JY.length c_g JY) (acs_of hM' ha rfl hf fun φ hφ=>(show φ∈(rowF (pt g JY.length) (cellsA JY)::(rowF zz (cellsE E)::(rowF (pt t x1.S.length) (cellsS x1.S)::((⟨y1,x1,fa,fc⟩:Ea).fs ⟨v0,s,E,false⟩++(rowF (pt v x0.S.length) (cellsS x0.S)::(xx.fs (failP (joinS s.S) 7)++(acsF a M.length M++sgF x0 s0))))))) from .tail _ (.tail _ (.tail _ (List.mem_append_right _ (.tail _ (List.mem_append_right _ (List.mem_append_left _ hφ))))))))) ?_
      conv=>arg 5;whnf
      refine meetc (f:=15) (v:=.bool true) rfl (by kernel_rfl) (fun β ρ w' hM'=>evict.live w' (hM.later hM'.below)) ?_
      conv=>arg 5;whnf
      exact wp_back fun β ρ w' hM'=>⟨rfl,hM'.below⟩
    ·skip
     conv=>arg 5;whnf
     refine meet1F (f:=20) (n:=x0.S.length) (v:=fun a1 c1=>sgV s0 ⟨x0.la,x0.lc,a1,c1,x0.S⟩) (xs:=cellsS x0.S) rfl (by kernel_rfl) (fun β ρ w' hM'=>ownS s0 x0 w' hx0.1 hx0.2.1 (hM'.at_ (show rowF (pt x0.sa x0.S.length) (cellsS x0.S)∈(acsF a M.length M++sgF x0 s0) from List.mem_append_right _ (.tail _ (.head _)))) (by omega)) (fun v c_v h_v f_v=>?_)
     have hx1:Sgo (⟨x0.la,x0.lc,v,c_v,x0.S⟩:Sn) s0:=⟨hx0.1,h_v,hx0.2.2.1,hx0.2.2.2⟩
     conv=>arg 5;whnf
     refine meetEt (Ea.vR (k:Int)) (f:=19) ⟨v0,s,E,false⟩ (sgF (⟨x0.la,x0.lc,v,c_v,x0.S⟩:Sn) s0) (fun φ hφ=>(show φ∈(rowF (pt v x0.S.length) (cellsS x0.S)::(acsF a M.length M++sgF x0 s0)) from (List.mem_cons.1 hφ).elim (fun e=>e▸.tail _ (List.mem_append_right _ (.head _))) fun hφ=>(List.mem_cons.1 hφ).elim (fun e=>e▸.head _) fun hφ=>.tail _ (List.mem_append_right _ (.tail _ (.tail _ hφ))))) rfl (by kernel_rfl) (fun β ρ w' hM'=>RUN (⟨x0.la,x0.lc,v,c_v,x0.S⟩:Sn) w' (hM.later hM'.below) hx1 (fun φ hφ g hg=>(hM'.fact φ (show φ∈(rowF (pt v x0.S.length) (cellsS x0.S)::(acsF a M.length M++sgF x0 s0)) from (List.mem_cons.1 hφ).elim (fun e=>e▸.tail _ (List.mem_append_right _ (.head _))) fun hφ=>(List.mem_cons.1 hφ).elim (fun e=>e▸.head _) fun hφ=>.tail _ (List.mem_append_right _ (.tail _ (.tail _ hφ)))) g hg).2)) (fun b hb hnew=>?_)
     obtain ⟨y1,x1,fa,fc⟩:=b
     obtain ⟨hy1,hx2,hf1⟩:=hb
     have hy1:y1.ok v0.P:=hy1
     have hx2:Sgo x1 s:=hx2
     have hf1:Sl fa E.length fc:=hf1
     have hxl2:=sgs_len hx2
     conv=>arg 5;whnf
     refine meet1F (f:=21) (n:=x1.S.length) (v:=fun a1 c1=>sgV s ⟨x1.la,x1.lc,a1,c1,x1.S⟩) (xs:=cellsS x1.S) rfl (by kernel_rfl) (fun β ρ w' hM'=>toldS s x1 w' hx2.1 hx2.2.1 (hM'.at_ (show rowF (pt x1.sa x1.S.length) (cellsS x1.S)∈((⟨y1,x1,fa,fc⟩:Ea).fs ⟨v0,s,E,false⟩++(rowF (pt v x0.S.length) (cellsS x0.S)::(acsF a M.length M++sgF x0 s0))) from List.mem_append_left _ (.tail _ (List.mem_append_right _ (.tail _ (.head _)))))) (by omega)) (fun t c_t h_t f_t=>?_)
     have hx9:Sgo (⟨x1.la,x1.lc,t,c_t,x1.S⟩:Sn) s:=⟨hx2.1,h_t,hx2.2.2.1,hx2.2.2.2⟩
     conv=>arg 5;whnf
     refine meetc (f:=23) (v:=ekV v0 y1) rfl (by kernel_rfl) (fun β ρ w' hM'=>toldV v0 y1 w') ?_
     conv=>arg 5;whnf
     refine meetc (f:=22) (v:=.bool true) rfl (by kernel_rfl) (fun β ρ w' hM'=>rsameE v0 y1 n0 w' hy1 n0_ok (fun φ hφ g hg=>(hM'.fact φ (show φ∈(rowF (pt t x1.S.length) (cellsS x1.S)::((⟨y1,x1,fa,fc⟩:Ea).fs ⟨v0,s,E,false⟩++(rowF (pt v x0.S.length) (cellsS x0.S)::(acsF a M.length M++sgF x0 s0)))) from .tail _ (List.mem_append_left _ (.tail _ (List.mem_append_left _ hφ)))) g hg).2) n0_fs) ?_
     conv=>arg 5;whnf
     refine wp_share fun zz c_z h_z f_z=>?_
     conv=>arg 5;whnf
     refine meetc (f:=24) (v:=.bool true) rfl (by kernel_rfl) (fun β ρ w' hM'=>revents E fa fc zz c_z w' hf1 (hM'.at_ (show rowF (pt fa E.length) (cellsE E)∈(rowF zz (cellsE E)::(rowF (pt t x1.S.length) (cellsS x1.S)::((⟨y1,x1,fa,fc⟩:Ea).fs ⟨v0,s,E,false⟩++(rowF (pt v x0.S.length) (cellsS x0.S)::(acsF a M.length M++sgF x0 s0))))) from .tail _ (.tail _ (List.mem_append_left _ (.head _))))) h_z (atPt _ (hM'.at_ (show rowF zz (cellsE E)∈(rowF zz (cellsE E)::(rowF (pt t x1.S.length) (cellsS x1.S)::((⟨y1,x1,fa,fc⟩:Ea).fs ⟨v0,s,E,false⟩++(rowF (pt v x0.S.length) (cellsS x0.S)::(acsF a M.length M++sgF x0 s0))))) from .head _)))) ?_
     conv=>arg 5;whnf
     refine wp_g0 (fun _=>?_) (fun h=>absurd h (by show ¬ (!((k:Int)==(k:Int)))=true;simp))
     conv=>arg 5;whnf
     refine meetc (f:=14) (v:=.bool true) rfl (by kernel_rfl) (fun β ρ w' hM'=>hm▸rmay s (⟨x1.la,x1.lc,t,c_t,x1.S⟩:Sn) w' (hM.later hM'.below) (sgs_of hM' hx9 fun φ hφ=>(show φ∈(rowF zz (cellsE E)::(rowF (pt t x1.S.length) (cellsS x1.S)::((⟨y1,x1,fa,fc⟩:Ea).fs ⟨v0,s,E,false⟩++(rowF (pt v x0.S.length) (cellsS x0.S)::(acsF a M.length M++sgF x0 s0))))) from (List.mem_cons.1 hφ).elim (fun e=>e▸.tail _ (.tail _ (List.mem_append_left _ (.tail _ (List.mem_append_right _ (.head _)))))) fun hφ=>(List.mem_cons.1 hφ).elim (fun e=>e▸.tail _ (.head _)) fun hφ=>.tail _ (.tail _ (List.mem_append_left _ (.tail _ (List.mem_append_right _ (.tail _ (.tail _ hφ)))))))) (fun q hq=>Nat.le_trans (sgs_n hx9 (n:=256) (fun q hq=>by obtain ⟨j,hj⟩:=List.mem_iff_getElem?.1 hq;exact may_len hm hj) q hq) (by decide))) ?_
     conv=>arg 5;whnf
     refine meetc (f:=25) (v:=.int .i64 (pot.overV s.t s.m s0.C.so)) rfl (by kernel_rfl) (fun β ρ w' hM'=>pot.rover s.t s.m s0.C.so w' ⟨by omega,by omega⟩) ?_
     conv=>arg 5;whnf
     refine wp_br (fun h=>absurd h (by show ¬ (!(pot.overV s.t s.m s0.C.so==0))=true;unfold pot.overV;rw [if_neg (fun q=>hov (by rw [hC];exact q.2.2))];simp)) (fun _=>?_)
     conv=>arg 5;whnf
     refine loop_rule Sxe.env_ok.keeps [(7,(line [0,1,2,3,4,5,6,7,8,9,10,11,12,13],[]))] (schedQ_ok _ _ (by kernel_rfl)) (fun j:Nat=>j≤s.l.length) (fun j=>(⟨[some ([.v (.int .i64 s0.C.sh),.v (.int .i64 s0.C.so),.v (.int .i64 s0.C.hd),.v (.int .i64 s0.C.per),.v (.int .i64 s0.C.bp),.v (.int .i64 s0.C.fd),.v (.int .i64 s0.C.wk),.v (.int .i64 s0.C.rm),.v (.slice x0.la s0.l.length x0.lc),.v (.int .i64 s0.t),.v (.int .i64 s0.m),.v (.slice x0.sa x0.S.length x0.sc)],29),some ([.v (.int .i64 v0.ph),.v (.int .i64 v0.i),.v (.int .i64 v0.t.s),.v (.int .i64 v0.t.n),.v (.int .i64 v0.t.t),.v (.int .i64 v0.t.c),.v (.int .i64 v0.t.g),.v (.string v0.t.d),.v (.bool v0.P.ch),.v (.int .i64 v0.P.dl),.v (.int .i64 v0.P.s),.v (.int .i64 v0.P.b),.v (.slice y1.a v0.P.l.length y1.c),.v (.slice y1.ea v0.P.ev.length y1.ec),.v (.int .i64 v0.P.r.e),.v (.int .i64 v0.P.r.t.s),.v (.int .i64 v0.P.r.t.n),.v (.int .i64 v0.P.r.t.t),.v (.int .i64 v0.P.r.t.c),.v (.int .i64 v0.P.r.t.g),.v (.string v0.P.r.t.d),.v (.slice y1.ta v0.P.r.l.length y1.tc),.v (.int .i64 v0.P.r.n)],51),some ([.v (.int .i64 s.C.sh),.v (.int .i64 s.C.so),.v (.int .i64 s.C.hd),.v (.int .i64 s.C.per),.v (.int .i64 s.C.bp),.v (.int .i64 s.C.fd),.v (.int .i64 s.C.wk),.v (.int .i64 s.C.rm),.v (.slice x1.la s.l.length x1.lc),.v (.int .i64 s.t),.v (.int .i64 s.m),.v (.slice x1.sa x1.S.length x1.sc)],56),some ([.v (.int .i64 s.C.sh),.v (.int .i64 s.C.so),.v (.int .i64 s.C.hd),.v (.int .i64 s.C.per),.v (.int .i64 s.C.bp),.v (.int .i64 s.C.fd),.v (.int .i64 s.C.wk),.v (.int .i64 s.C.rm),.v (.slice (⟨x1.la,x1.lc,t,c_t,x1.S⟩:Sn).la s.l.length (⟨x1.la,x1.lc,t,c_t,x1.S⟩:Sn).lc),.v (.int .i64 s.t),.v (.int .i64 s.m),.v (.slice (⟨x1.la,x1.lc,t,c_t,x1.S⟩:Sn).sa (⟨x1.la,x1.lc,t,c_t,x1.S⟩:Sn).S.length (⟨x1.la,x1.lc,t,c_t,x1.S⟩:Sn).sc)],29)],[none],(rowF zz (cellsE E)::(rowF (pt t x1.S.length) (cellsS x1.S)::((⟨y1,x1,fa,fc⟩:Ea).fs ⟨v0,s,E,false⟩++(rowF (pt v x0.S.length) (cellsS x0.S)::(acsF a M.length M++sgF x0 s0)))))⟩,[.v (.int .i64 who),.any,.any,.p 0 0,.any,.v (.slice a M.length c),.any,.any,.any,.any,.any,.any,.any,.any,.any,.any,.any,.p 3 0,.v (.int .i64 j),.any,.any,.any,.any,.any,.any,.any,.any,.any,.any,.any,.any,.any,.any,.any,.any,.any,.any,.any,.any,.any,.any,.any,.any,.any,.any,.any,.any,.any,.any,.any,.any,.any,.any,.any,.any,.any,.any,.any,.any,.any,.any,.any,.any,.any,.any,.any,.any,.any,.any,.any,.any,.any,.any,.any,.any,.any,.any,.any,.any,.any,.any,.any,.any,.any,.any,.any,.any,.any,.any,.any,.any,.any,.any,.any,.any,.any,.any,.any,.any,.any,.any,.any,.any,.any,.any,.any,.any,.any,.any,.any,.any,.any,.any,.any,.any,.any,.any,.any,.any,.any,.any,.any,.any,.any,.any,.any,.any,.any,.any,.any,.any,.any,.any,.any,.any,.any,.any,.any,.any,.any,.any,.any,.any,.any,.any,.any,.any,.any])) (fun j=>s.l.length - j) 0 (Nat.zero_le _) ⟨by repeat' first | exact trivial | refine ⟨.inl rfl,?_⟩ | refine ⟨.inr rfl,?_⟩,⟨by repeat' first | exact trivial | refine ⟨.inl rfl,?_⟩ | refine ⟨.inr rfl,?_⟩,by repeat' first | exact trivial | refine ⟨.inl rfl,?_⟩ | refine ⟨.inr rfl,?_⟩,fun _ h=>h⟩,rfl⟩ ?_
     intro j hj
     conv=>arg 5;whnf
     refine wp_br (fun h3=>?_) (fun h3=>?_)
     ·have hlt:j<s.l.length:=by have h4:=of_decide_eq_true (show decide ((j:Int)<(s.l.length:Int))=true from h3);omega
      obtain ⟨z,hzj⟩:∃z,s.l[j]?=some z:=⟨_,List.getElem?_eq_getElem hlt⟩
      have hl63:=(may_small hm).1
      have hz0:z=0:=hl0 z (hl▸List.mem_of_getElem? hzj)
      conv=>arg 5;whnf
      refine wp_must ⟨by omega,by show (j:Int)<(s.l.length:Int);omega,hx2.1.some hlt⟩ ?_
      conv=>arg 5;whnf
      refine readF (sz:=1) (k:=j) (f:=0) (.int .i64 z) rfl (show rowF (pt x1.la s.l.length) (ic s.l)∈(rowF zz (cellsE E)::(rowF (pt t x1.S.length) (cellsS x1.S)::((⟨y1,x1,fa,fc⟩:Ea).fs ⟨v0,s,E,false⟩++(rowF (pt v x0.S.length) (cellsS x0.S)::(acsF a M.length M++sgF x0 s0))))) from .tail _ (.tail _ (List.mem_append_left _ (.tail _ (List.mem_append_right _ (.head _)))))) hlt (hx2.1.some hlt) (by rw [show j*1+0=j by omega];exact ic_get hzj) rfl ?_
      conv=>arg 5;whnf
      refine wp_br (fun h=>absurd h (by show ¬ (!(z==0))=true;rw [hz0];simp)) (fun _=>?_)
      conv=>arg 5;whnf
      refine wp_must ⟨by show -9223372036854775808≤(j:Int)+1;omega,by show (j:Int)+1≤9223372036854775807;omega⟩ ?_
      conv=>arg 5;whnf
      refine wp_end ⟨j+1,hlt,⟨by repeat' first | exact trivial | refine ⟨.inl rfl,?_⟩ | refine ⟨.inr rfl,?_⟩,⟨by repeat' first | exact trivial | refine ⟨.inl rfl,?_⟩ | refine ⟨.inr rfl,?_⟩,by repeat' first | exact trivial | refine ⟨.inl rfl,?_⟩ | refine ⟨.inr rfl,?_⟩,fun _ h=>h⟩,rfl⟩,by show s.l.length - (j+1)<s.l.length - j;omega⟩
     ·skip
      have hmap2:(srt (fun z:Ac=>z.s) (allS x1.S)).map acP=joinS s.S:=by rw [join_map,hx2.2.2.2]
      have hall2:=evict.all_len hm hx2
      have RJ2:=fun u cu w hS=>rjoin x1.S u x1.S.length cu w hS (by omega) hall2
      have hjf2:=join_facts hx2
      generalize srt (fun z:Ac=>z.s) (allS x1.S)=JY at *
      conv=>arg 5;whnf
      refine meet1F (f:=16) (n:=JY.length) (v:=fun a1 c1=>.slice a1 JY.length c1) (xs:=cellsA JY) rfl (by kernel_rfl) (fun β ρ w' hM'=>RJ2 t c_t w' (sgs_of hM' hx9 fun φ hφ=>(show φ∈(rowF zz (cellsE E)::(rowF (pt t x1.S.length) (cellsS x1.S)::((⟨y1,x1,fa,fc⟩:Ea).fs ⟨v0,s,E,false⟩++(rowF (pt v x0.S.length) (cellsS x0.S)::(acsF a M.length M++sgF x0 s0))))) from (List.mem_cons.1 hφ).elim (fun e=>e▸.tail _ (.tail _ (List.mem_append_left _ (.tail _ (List.mem_append_right _ (.head _)))))) fun hφ=>(List.mem_cons.1 hφ).elim (fun e=>e▸.tail _ (.head _)) fun hφ=>.tail _ (.tail _ (List.mem_append_left _ (.tail _ (List.mem_append_right _ (.tail _ (.tail _ hφ)))))))).2.1) (fun g c_g h_g f_g=>?_)
      conv=>arg 5;whnf
      refine meetc (f:=26) (v:=.bool true) rfl (by kernel_rfl) (fun β ρ w' hM'=>raccounts JY M (hmap2.trans hMm.symm) g JY.length c_g a M.length c w' (⟨h_g,rfl,hM'.at_ (show rowF (pt g JY.length) (cellsA JY)∈(rowF (pt g JY.length) (cellsA JY)::(rowF zz (cellsE E)::(rowF (pt t x1.S.length) (cellsS x1.S)::((⟨y1,x1,fa,fc⟩:Ea).fs ⟨v0,s,E,false⟩++(rowF (pt v x0.S.length) (cellsS x0.S)::(acsF a M.length M++sgF x0 s0)))))) from .head _),fun z hz=>⟨(hjf2 z hz).1,hM'.at_ (a:=pt z.a z.n) (xs:=cellsL z.l) (show acF z∈(rowF (pt g JY.length) (cellsA JY)::(rowF zz (cellsE E)::(rowF (pt t x1.S.length) (cellsS x1.S)::((⟨y1,x1,fa,fc⟩:Ea).fs ⟨v0,s,E,false⟩++(rowF (pt v x0.S.length) (cellsS x0.S)::(acsF a M.length M++sgF x0 s0)))))) from .tail _ (.tail _ (.tail _ (List.mem_append_left _ (.tail _ (List.mem_append_right _ ((hjf2 z hz).2)))))))⟩⟩:Acs w' g JY.length c_g JY) (acs_of hM' ha rfl hf fun φ hφ=>(show φ∈(rowF (pt g JY.length) (cellsA JY)::(rowF zz (cellsE E)::(rowF (pt t x1.S.length) (cellsS x1.S)::((⟨y1,x1,fa,fc⟩:Ea).fs ⟨v0,s,E,false⟩++(rowF (pt v x0.S.length) (cellsS x0.S)::(acsF a M.length M++sgF x0 s0)))))) from .tail _ (.tail _ (.tail _ (List.mem_append_right _ (.tail _ (List.mem_append_left _ hφ)))))))) ?_
      conv=>arg 5;whnf
      refine meetc (f:=15) (v:=.bool true) rfl (by kernel_rfl) (fun β ρ w' hM'=>evict.live w' (hM.later hM'.below)) ?_
      conv=>arg 5;whnf
      exact wp_back fun β ρ w' hM'=>⟨rfl,hM'.below⟩
end Go.Proofs.YtfhgkkcpkcjbmaaGreatDoor.evictAlone
