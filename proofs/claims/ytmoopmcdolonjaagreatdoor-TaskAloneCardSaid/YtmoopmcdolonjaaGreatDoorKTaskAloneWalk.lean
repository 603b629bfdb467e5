/- The walk of hopperlaw16.TaskAlone. -/
import Derived.Test.YtmoopmcdolonjaaGreatDoorKTkW
import Derived.Test.YtmoopmcdolonjaaGreatDoorKTkRR
import Derived.Test.YtmoopmcdolonjaaGreatDoorKTkQ
import Derived.Test.YtmoopmcdolonjaaGreatDoorKTkS5
set_option linter.all false
set_option maxHeartbeats 4000000
set_option maxRecDepth 100000
namespace Go.Proofs.YtmoopmcdolonjaaGreatDoor.taskAlone
open Go.RowKit Sx txn queue greedy shard pool Go.Proofs.YtmoopmcdolonjaaGreatDoor.look lock Go.Proofs.YtmoopmcdolonjaaGreatDoor.task
theorem evL_sz {c:Cx} (ho:c.o.d.size≤1000000) (hm:mayS c.s=true) (hd:∀q∈c.s.S,∀p∈q.1,∀z∈p.2.2,z.d.size≤maxLen):c.L.ev.length≤1000:=by
 have h3:=(lookL_r c.s.C.per c.s.C.bp (getP c.q.1 c.σ) c.o).2.2
 have h4:(getP c.q.1 c.σ).2.2.length≤16:=by
  rcases getP_or c.q.1 c.σ with ⟨g1,_⟩ | ⟨g1,_⟩
  ·have hq:c.q∈c.s.S∨c.q=([],0):=by
    unfold Cx.q shQ
    cases e:c.s.S[c.κ.toNat]? with
    | none=>exact .inr rfl
    | some q=>exact .inl (List.mem_of_getElem? e)
   rcases hq with hq | hq
   ·obtain ⟨k,hk⟩:=List.mem_iff_getElem?.1 hq
    have:=(shCheck_iff.1 (may_shard hm hk)).2.1 _ g1
    have:=(good_iff.1 this.1).1
    omega
   ·rw [hq] at g1;cases g1
  ·rw [g1];exact Nat.zero_le _
 unfold Cx.L
 omega
structure Iz where
 k:Nat
 t:Tk
 s:Sg
 y:Tn
 x:Sn
def Iz.ok (c:Cx) (i:Iz):Prop:=i.k≤6∧(i.k:Int)≤i.t.ph∧Pth c i.t i.s∧i.y.ok i.t∧Sgo i.x i.s
def pn (t:Tk):Int:=if t.pt=true then 1 else 0
theorem zstep {l:List Int} {k:Nat} (h:∀j,j<k→l[j]?=some 0) (hz:l[k]?=some (0:Int)):∀j,j<k+1→l[j]?=some 0:=fun j hj=>by
 rcases Nat.lt_or_ge j k with h1 | h1
 ·exact h j h1
 ·obtain rfl:j=k:=by omega
  exact hz
theorem all256 {s:Sg} {x:Sn} (hm:mayS s=true) (hx:Sgo x s):(allS x.S).length≤100000:=by
 have key:∀(S:List Shd),(∀q∈S,q.L.length≤256)→(allS S).length≤S.length*256:=by
  intro S
  induction S with
  | nil=>intro _;simp [allS]
  | cons q S ih=>
   intro h
   have h1:=h q (.head _)
   have h2:=ih fun p hp=>h p (.tail _ hp)
   unfold allS at *
   rw [List.flatMap_cons,List.length_append,List.length_cons]
   omega
 have h1:=key x.S fun q hq=>by
  have h2:shdP q∈s.S:=by rw [← hx.2.2.2];exact List.mem_map.2 ⟨q,hq,rfl⟩
  obtain ⟨k,hk⟩:=List.mem_iff_getElem?.1 h2
  have:=may_len hm hk
  have h3:(q.L.map acP).length≤256:=this
  rw [List.length_map] at h3
  exact h3
 have:=(may_small hm).2
 have:=sgs_len hx
 omega
theorem join_facts {x:Sn} {s:Sg} (hx:Sgo x s):∀z∈srt (fun z:Ac=>z.s) (allS x.S),z.fit∧acF z∈sgF x s:=fun z hz=>by
 have hz2:=(srt_perm (fun z:Ac=>z.s) (allS x.S)).mem_iff.1 hz
 obtain ⟨q,hq,hzq⟩:=List.mem_flatMap.1 hz2
 exact ⟨(hx.2.2.1 q hq).2.2 z hzq,.tail _ (acF_all hz2)⟩
theorem tpl_le2 {s:Sg} {x:Sn} (hm:mayS s=true) (hx:Sgo x s) {L:List Ac} (hL:L.map acP=joinS s.S) (g:Int):(tplP (joinS s.S) g).length≤1000000:=by
 unfold tplP templateV
 refine Nat.le_trans (pool.tplV_le _ _) ?_
 unfold sizeL
 have hj:(joinS s.S).length≤100000:=by
  have:=all256 hm hx
  have h2:=join_map x.S
  rw [hx.2.2.2] at h2
  rw [← h2,List.length_map,srt_len]
  exact this
 have hl:∀p∈joinS s.S,p.2.2.length≤16:=fun p hp=>by
  obtain ⟨k,q,hk,hpq⟩:=join_mem.1 hp
  have:=(shCheck_iff.1 (may_shard hm hk)).2.1 p hpq
  have:=(good_iff.1 this.1).1
  omega
 have hj2:(joinS s.S).length≤2048:=by
  have h1:=(may_small hm).2
  have key:∀(S:List (List PA×Int)),(∀q∈S,q.1.length≤256)→(S.flatMap fun q=>q.1).length≤S.length*256:=by
   intro S
   induction S with
   | nil=>intro _;simp
   | cons q S ih=>
    intro h
    have h1:=h q (.head _)
    have h2:=ih fun p hp=>h p (.tail _ hp)
    rw [List.flatMap_cons,List.length_append,List.length_cons]
    omega
  have h3:=key s.S fun q hq=>by
   obtain ⟨k,hk⟩:=List.mem_iff_getElem?.1 hq
   exact may_len hm hk
  unfold joinS
  rw [srt_len]
  omega
 have h1:((firstsV ((joinS s.S).map toA)).map fun x=>lineV x.b x.l).length≤2048:=by
  rw [List.length_map]
  have:=firstsV_le ((joinS s.S).map toA) ((joinS s.S).map toA).length
  rw [List.take_length,List.length_map] at this
  omega
 refine Nat.le_trans (sum_le (k:=16) fun z hz=>?_) ?_
 ·obtain ⟨r,hr,rfl⟩:=List.mem_map.1 hz
  obtain ⟨x,hx,rfl⟩:=List.mem_map.1 hr
  refine Nat.le_trans (lineV_le _ _) ?_
  obtain ⟨p,hp,rfl⟩:=List.mem_map.1 (firstsV_mem hx)
  exact hl p hp
 ·rw [List.length_map];omega
theorem walk (O:Oq) (who:Int) (s0:Sg) (x0:Sn) (w:World) (hM:Most w) (hO:O.fits) (hW:Fits who) (hI:SgIn w x0 s0∧s0.fits) :
  Calls Tryz.prog 3 (List.toArray [O.val,.int .i64 who,sgV s0 x0]) w fun e w'=>e=.returned (.bool true)∧Below w.heap.size w w':=by
 obtain ⟨hI,_⟩:=hI
 have SM:=fun w' (h:SgIn w' x0 s0)=>small s0 x0 w' h
 have hsm:=fun (hb:smallB x0 s0=true)=>hI.small hb
 generalize smallB x0 s0=sb at *
 refine calls_of_exec Sxt.env_ok.keeps Tryz.func3 rfl [(7,(line [0,1,2,3,4,5,6,7,8,9,10,11,12,13],[])),(26,(line [0,1,2,3,4,5,6,7,8,9,10,11,12,13,14,15,16,17,18,19,20,21,22,23,24,25,26,27,28,29,30,31,32,33,34],[]))] (schedQ_ok _ _ (by kernel_rfl)) (sgF x0 s0) hI.facts ?_
 conv=>arg 5;whnf
 refine meetc (f:=7) (v:=.bool sb) rfl (by kernel_rfl) (fun β ρ w' hM'=>SM w' (hI.mem hM' fun φ hφ=>hφ)) ?_
 cases sb with
 | false=>
  conv=>arg 5;whnf
  refine meetc (f:=9) (v:=.bool true) rfl (by kernel_rfl) (fun β ρ w' hM'=>task.live w' (hM.later hM'.below)) ?_
  conv=>arg 5;whnf
  exact wp_back fun β ρ w' hM'=>⟨rfl,hM'.below⟩
 | true=>
  obtain ⟨hx0,hl10,hS10,hq20,hz20⟩:=hsm rfl
  conv=>arg 5;whnf
  refine wp_g0 (fun h1=>?_) (fun h1=>?_)
  rotate_left
  ·skip
   conv=>arg 5;whnf
   refine meetc (f:=9) (v:=.bool true) rfl (by kernel_rfl) (fun β ρ w' hM'=>task.live w' (hM.later hM'.below)) ?_
   conv=>arg 5;whnf
   exact wp_back fun β ρ w' hM'=>⟨rfl,hM'.below⟩
  have hd:O.d.size≤1000000:=by have h2:¬ (500:Int)<(O.d.size:Int):=of_decide_eq_false h1;omega
  have MY:=fun w hM hS=>rmay s0 x0 w hM hS (fun q hq=>Nat.le_trans (hq20 q hq) (by decide))
  cases hmy:mayS s0 with
  | false=>
   rw [hmy] at MY
   conv=>arg 5;whnf
   refine meetc (f:=8) (v:=.bool false) rfl (by kernel_rfl) (fun β ρ w' hM'=>MY w' (hM.later hM'.below) (sgs_of hM' hx0 fun φ hφ=>hφ)) ?_
   conv=>arg 5;whnf
   refine meetc (f:=9) (v:=.bool true) rfl (by kernel_rfl) (fun β ρ w' hM'=>task.live w' (hM.later hM'.below)) ?_
   conv=>arg 5;whnf
   exact wp_back fun β ρ w' hM'=>⟨rfl,hM'.below⟩
  | true=>
   rw [hmy] at MY
   conv=>arg 5;whnf
   refine meetc (f:=8) (v:=.bool true) rfl (by kernel_rfl) (fun β ρ w' hM'=>MY w' (hM.later hM'.below) (sgs_of hM' hx0 fun φ hφ=>hφ)) ?_
   conv=>arg 5;whnf
   refine wp_g0 (fun h2=>?_) (fun h2=>?_)
   rotate_left
   ·skip
    conv=>arg 5;whnf
    refine meetc (f:=9) (v:=.bool true) rfl (by kernel_rfl) (fun β ρ w' hM'=>task.live w' (hM.later hM'.below)) ?_
    conv=>arg 5;whnf
    exact wp_back fun β ρ w' hM'=>⟨rfl,hM'.below⟩
   have hw1:1≤who:=by have h3:¬ who<1:=of_decide_eq_false h2;omega
   conv=>arg 5;whnf
   refine wp_g0 (fun h2=>?_) (fun h2=>?_)
   rotate_left
   ·skip
    conv=>arg 5;whnf
    refine meetc (f:=9) (v:=.bool true) rfl (by kernel_rfl) (fun β ρ w' hM'=>task.live w' (hM.later hM'.below)) ?_
    conv=>arg 5;whnf
    exact wp_back fun β ρ w' hM'=>⟨rfl,hM'.below⟩
   have hk0:0≤O.k:=by have h3:¬ O.k<0:=of_decide_eq_false h2;omega
   conv=>arg 5;whnf
   refine wp_br (fun h2=>?_) (fun h2=>?_)
   ·skip
    conv=>arg 5;whnf
    refine meetc (f:=9) (v:=.bool true) rfl (by kernel_rfl) (fun β ρ w' hM'=>task.live w' (hM.later hM'.below)) ?_
    conv=>arg 5;whnf
    exact wp_back fun β ρ w' hM'=>⟨rfl,hM'.below⟩
   have hk3:O.k≤3:=by have h3:¬ (3:Int)<O.k:=of_decide_eq_false h2;omega
   have hmap:(srt (fun z:Ac=>z.s) (allS x0.S)).map acP=joinS s0.S:=by rw [join_map,hx0.2.2.2]
   have hall:=all256 hmy hx0
   have hxS:=sgs_len hx0
   have RJ:=fun w hS=>rjoin x0.S x0.sa x0.S.length x0.sc w hS (by omega) hall
   have hjf:=join_facts hx0
   have hjl:=srt_len (fun z:Ac=>z.s) (allS x0.S)
   generalize srt (fun z:Ac=>z.s) (allS x0.S)=JL at *
   conv=>arg 5;whnf
   refine meet1F (f:=10) (n:=JL.length) (v:=fun a1 c1=>.slice a1 JL.length c1) (xs:=cellsA JL) rfl (by kernel_rfl) (fun β ρ w' hM'=>RJ w' (sgs_of hM' hx0 fun φ hφ=>hφ).2.1) (fun u c_u h_u f_u=>?_)
   conv=>arg 5;whnf
   refine loop_rule Sxt.env_ok.keeps [(7,(line [0,1,2,3,4,5,6,7,8,9,10,11,12,13],[])),(26,(line [0,1,2,3,4,5,6,7,8,9,10,11,12,13,14,15,16,17,18,19,20,21,22,23,24,25,26,27,28,29,30,31,32,33,34],[]))] (schedQ_ok _ _ (by kernel_rfl)) (fun k:Nat=>k≤s0.l.length∧(∀j,j<k→s0.l[j]?=some 0)∧(0<k→s0.t=slotsP (joinS s0.S))) (fun k=>(⟨[some ([.v (.int .i64 O.k),.v (.int .i64 O.s),.v (.int .i64 O.v),.v (.int .i64 O.g),.v (.string O.d)],23),some ([.v (.int .i64 s0.C.sh),.v (.int .i64 s0.C.so),.v (.int .i64 s0.C.hd),.v (.int .i64 s0.C.per),.v (.int .i64 s0.C.bp),.v (.int .i64 s0.C.fd),.v (.int .i64 s0.C.wk),.v (.int .i64 s0.C.rm),.v (.slice x0.la s0.l.length x0.lc),.v (.int .i64 s0.t),.v (.int .i64 s0.m),.v (.slice x0.sa x0.S.length x0.sc)],31)],[],(rowF (pt u JL.length) (cellsA JL)::sgF x0 s0)⟩,[.any,.v (.int .i64 who),.any,.p 0 0,.any,.p 1 0,.any,.v (.slice u JL.length c_u),.v (.int .i64 k),.any,.any,.any,.any,.any,.any,.any,.any,.any,.any,.any,.any,.any,.any,.any,.any,.any,.any,.any,.any,.any,.any,.any,.any,.any,.any,.any,.any,.any,.any,.any,.any,.any,.any,.any,.any,.any,.any,.any,.any,.any,.any,.any,.any,.any,.any,.any,.any,.any,.any,.any,.any,.any,.any,.any,.any,.any,.any,.any,.any,.any,.any,.any,.any,.any,.any,.any,.any,.any,.any,.any,.any,.any,.any,.any,.any,.any,.any,.any,.any,.any,.any,.any,.any,.any,.any,.any,.any,.any,.any,.any,.any,.any,.any,.any,.any,.any,.any,.any,.any,.any,.any,.any,.any,.any,.any,.any,.any,.any,.any,.any,.any,.any,.any,.any,.any,.any,.any,.any,.any,.any,.any,.any,.any,.any,.any,.any,.any,.any,.any,.any,.any,.any,.any,.any,.any,.any,.any,.any,.any,.any,.any,.any,.any,.any,.any,.any,.any,.any,.any,.any,.any,.any,.any,.any,.any,.any,.any,.any,.any,.any,.any,.any,.any,.any,.any,.any,.any,.any,.any])) (fun k=>s0.l.length - k) 0 ⟨Nat.zero_le _,fun j h=>(by omega),fun h=>(by omega)⟩ ⟨by repeat' first | exact trivial | refine ⟨.inl rfl,?_⟩ | refine ⟨.inr rfl,?_⟩,⟨by repeat' first | exact trivial | refine ⟨.inl rfl,?_⟩ | refine ⟨.inr rfl,?_⟩,by repeat' first | exact trivial | refine ⟨.inl rfl,?_⟩ | refine ⟨.inr rfl,?_⟩,fun _ h=>h⟩,rfl⟩ ?_
   rintro k ⟨hk,hz0,ht0⟩
   conv=>arg 5;whnf
   refine wp_br (fun h3=>?_) (fun h3=>?_)
   ·have hlt:k<s0.l.length:=by have h4:=of_decide_eq_true (show decide ((k:Int)<(s0.l.length:Int))=true from h3);omega
    obtain ⟨z,hz⟩:∃z,s0.l[k]?=some z:=⟨_,List.getElem?_eq_getElem hlt⟩
    conv=>arg 5;whnf
    refine wp_must ⟨by omega,by show (k:Int)<(s0.l.length:Int);omega,hx0.1.some hlt⟩ ?_
    conv=>arg 5;whnf
    refine readF (sz:=1) (k:=k) (f:=0) (.int .i64 z) rfl (show rowF (pt x0.la s0.l.length) (ic s0.l)∈(rowF (pt u JL.length) (cellsA JL)::sgF x0 s0) from .tail _ (.head _)) hlt (hx0.1.some hlt) (by rw [show k*1+0=k by omega];exact ic_get hz) rfl ?_
    conv=>arg 5;whnf
    refine wp_g0 (fun h4=>?_) (fun h4=>?_)
    rotate_left
    ·skip
     conv=>arg 5;whnf
     refine meetc (f:=9) (v:=.bool true) rfl (by kernel_rfl) (fun β ρ w' hM'=>task.live w' (hM.later hM'.below)) ?_
     conv=>arg 5;whnf
     exact wp_back fun β ρ w' hM'=>⟨rfl,hM'.below⟩
    have hzz:z=0:=by have h5:(!(z==0))=false:=h4;simpa using h5
    conv=>arg 5;whnf
    refine meetc (f:=11) (v:=.int .i64 (slotsA JL)) rfl (by kernel_rfl) (fun β ρ w' hM'=>rslots JL u JL.length c_u w' (⟨h_u,rfl,hM'.at_ (show rowF (pt u JL.length) (cellsA JL)∈(rowF (pt u JL.length) (cellsA JL)::sgF x0 s0) from .head _),fun z hz=>⟨(hjf z hz).1,hM'.at_ (a:=pt z.a z.n) (xs:=cellsL z.l) (show acF z∈(rowF (pt u JL.length) (cellsA JL)::sgF x0 s0) from .tail _ (hjf z hz).2)⟩⟩:Acs w' u JL.length c_u JL) (by omega)) ?_
    conv=>arg 5;whnf
    refine wp_br (fun h5=>?_) (fun h5=>?_)
    ·skip
     conv=>arg 5;whnf
     refine meetc (f:=9) (v:=.bool true) rfl (by kernel_rfl) (fun β ρ w' hM'=>task.live w' (hM.later hM'.below)) ?_
     conv=>arg 5;whnf
     exact wp_back fun β ρ w' hM'=>⟨rfl,hM'.below⟩
    have hts:s0.t=slotsP (joinS s0.S):=by have h6:(!(s0.t==slotsA JL))=false:=h5;rw [← hmap,← slotsA_P];simpa using h6
    conv=>arg 5;whnf
    refine wp_must ⟨by show -9223372036854775808≤(k:Int)+1;omega,by show (k:Int)+1≤9223372036854775807;omega⟩ ?_
    conv=>arg 5;whnf
    refine wp_end ⟨k+1,⟨hlt,zstep hz0 (hzz▸hz),fun _=>hts⟩,⟨by repeat' first | exact trivial | refine ⟨.inl rfl,?_⟩ | refine ⟨.inr rfl,?_⟩,⟨by repeat' first | exact trivial | refine ⟨.inl rfl,?_⟩ | refine ⟨.inr rfl,?_⟩,by repeat' first | exact trivial | refine ⟨.inl rfl,?_⟩ | refine ⟨.inr rfl,?_⟩,fun _ h=>h⟩,rfl⟩,by show s0.l.length - (k+1)<s0.l.length - k;omega⟩
   have hkn:k=s0.l.length:=by have h4:=of_decide_eq_false (show decide ((k:Int)<(s0.l.length:Int))=false from h3);omega
   subst hkn
   have hsh:=cfg_bd (may_iff.1 hmy).1
   have hlen:=(may_iff.1 hmy).2.1
   have hts:=ht0 (by omega)
   have hl0:∀z∈s0.l,z=0:=fun z hz=>by
    obtain ⟨j,hj⟩:=List.mem_iff_getElem?.1 hz
    have:=hz0 j (List.getElem?_eq_some_iff.1 hj).1
    rw [hj] at this
    exact Option.some.inj this
   have DO:=fun w hM hA=>do_any s0.C O JL u JL.length c_u w hM hA (by omega) hd ⟨hO.2.2.2.1.1,by have:=hO.2.2.2.1.2;omega⟩ (by rw [hmap];exact tpl_le2 hmy hx0 hmap O.g)
   rw [hmap] at DO
   have AE:=fun {t:Tk} {s:Sg} (h:Pth ⟨O,who,s0⟩ t s) (h6:t.ph=6)=>alone_end (c:=⟨O,who,s0⟩) hmy ⟨hk0,hk3⟩ hts h h6
   generalize hRR:doP s0.C (joinS s0.S) O=RR at *
   obtain ⟨RP,Rr,Re⟩:=RR
   conv=>arg 5;whnf
   refine meetAn (f:=12) (RP,Rr,Re) [] (by simp) rfl (by kernel_rfl) (fun β ρ w' hM'=>DO w' (hM.later hM'.below) (⟨h_u,rfl,hM'.at_ (show rowF (pt u JL.length) (cellsA JL)∈(rowF (pt u JL.length) (cellsA JL)::sgF x0 s0) from .head _),fun z hz=>⟨(hjf z hz).1,hM'.at_ (a:=pt z.a z.n) (xs:=cellsL z.l) (show acF z∈(rowF (pt u JL.length) (cellsA JL)::sgF x0 s0) from .tail _ (hjf z hz).2)⟩⟩:Acs w' u JL.length c_u JL)) (fun x hx _=>?_)
   obtain ⟨xa,xc,xL,ta,tc,ea,ec⟩:=x
   obtain ⟨x1,x2,x3,x4,x5⟩:=hx
   have x1:xL.map acP=RP:=x1
   have x3:Sl xa xL.length xc:=x3
   have x4:Sl ta Rr.l.length tc:=x4
   have x5:Sl ea Re.length ec:=x5
   conv=>arg 5;whnf
   refine meetc (f:=13) (v:=tkV (newT O) y0) rfl (by kernel_rfl) (fun β ρ w' hM'=>new_any w') ?_
   conv=>arg 5;whnf
   refine meet1F (f:=14) (n:=x0.S.length) (v:=fun a1 c1=>sgV s0 ⟨x0.la,x0.lc,a1,c1,x0.S⟩) (xs:=cellsS x0.S) rfl (by kernel_rfl) (fun β ρ w' hM'=>ownS s0 x0 w' hx0.1 hx0.2.1 (hM'.at_ (show rowF (pt x0.sa x0.S.length) (cellsS x0.S)∈(((⟨xa,xc,xL,ta,tc,ea,ec⟩:An).fs (RP,Rr,Re))++(rowF (pt u JL.length) (cellsA JL)::sgF x0 s0)) from List.mem_append_right _ (.tail _ (.tail _ (.head _))))) (by omega)) (fun v c_v h_v f_v=>?_)
   have hx1:Sgo (⟨x0.la,x0.lc,v,c_v,x0.S⟩:Sn) s0:=⟨hx0.1,h_v,hx0.2.2.1,hx0.2.2.2⟩
   have hd0:=sgs_d hx0
   conv=>arg 5;whnf
   refine loop_vac (rowF (pt none 0) (cellsL [])::y0.fs (newT O)) (fun φ hφ=>by simp only [Tn.fs,Pn.fs,List.mem_append,List.mem_cons,List.not_mem_nil,or_false] at hφ;rcases hφ with rfl | (rfl | rfl | rfl) | rfl <;> rfl) ?_
   refine loop_nil 14 117 8 rfl ?_
   refine loop_rule Sxt.env_ok.keeps [(7,(line [0,1,2,3,4,5,6,7,8,9,10,11,12,13],[])),(26,(line [0,1,2,3,4,5,6,7,8,9,10,11,12,13,14,15,16,17,18,19,20,21,22,23,24,25,26,27,28,29,30,31,32,33,34],[]))] (schedQ_ok _ _ (by kernel_rfl)) (Iz.ok ⟨O,who,s0⟩) (fun i=>(⟨[some ([.v (.int .i64 O.k),.v (.int .i64 O.s),.v (.int .i64 O.v),.v (.int .i64 O.g),.v (.string O.d)],23),some ([.v (.int .i64 s0.C.sh),.v (.int .i64 s0.C.so),.v (.int .i64 s0.C.hd),.v (.int .i64 s0.C.per),.v (.int .i64 s0.C.bp),.v (.int .i64 s0.C.fd),.v (.int .i64 s0.C.wk),.v (.int .i64 s0.C.rm),.v (.slice x0.la s0.l.length x0.lc),.v (.int .i64 s0.t),.v (.int .i64 s0.m),.v (.slice x0.sa x0.S.length x0.sc)],31),some ([.v (.int .i64 Rr.e),.v (.int .i64 Rr.t.s),.v (.int .i64 Rr.t.n),.v (.int .i64 Rr.t.t),.v (.int .i64 Rr.t.c),.v (.int .i64 Rr.t.g),.v (.string Rr.t.d),.v (.slice ta Rr.l.length tc),.v (.int .i64 Rr.n)],42),some ([.v (.int .i64 i.t.O.k),.v (.int .i64 i.t.O.s),.v (.int .i64 i.t.O.v),.v (.int .i64 i.t.O.g),.v (.string i.t.O.d),.v (.int .i64 i.t.ph),.v (.int .i64 i.t.s),.v (.bool i.t.P.ch),.v (.int .i64 i.t.P.dl),.v (.int .i64 i.t.P.s),.v (.int .i64 i.t.P.b),.v (.slice i.y.x.a i.t.P.l.length i.y.x.c),.v (.slice i.y.x.ea i.t.P.ev.length i.y.x.ec),.v (.int .i64 i.t.P.r.e),.v (.int .i64 i.t.P.r.t.s),.v (.int .i64 i.t.P.r.t.n),.v (.int .i64 i.t.P.r.t.t),.v (.int .i64 i.t.P.r.t.c),.v (.int .i64 i.t.P.r.t.g),.v (.string i.t.P.r.t.d),.v (.slice i.y.x.ta i.t.P.r.l.length i.y.x.tc),.v (.int .i64 i.t.P.r.n),.v (.int .i64 i.t.r.e),.v (.int .i64 i.t.r.t.s),.v (.int .i64 i.t.r.t.n),.v (.int .i64 i.t.r.t.t),.v (.int .i64 i.t.r.t.c),.v (.int .i64 i.t.r.t.g),.v (.string i.t.r.t.d),.v (.slice i.y.a i.t.r.l.length i.y.c),.v (.int .i64 i.t.r.n),.v (.bool i.t.pt)],52),some ([.v (.int .i64 i.s.C.sh),.v (.int .i64 i.s.C.so),.v (.int .i64 i.s.C.hd),.v (.int .i64 i.s.C.per),.v (.int .i64 i.s.C.bp),.v (.int .i64 i.s.C.fd),.v (.int .i64 i.s.C.wk),.v (.int .i64 i.s.C.rm),.v (.slice i.x.la i.s.l.length i.x.lc),.v (.int .i64 i.s.t),.v (.int .i64 i.s.m),.v (.slice i.x.sa i.x.S.length i.x.sc)],58)],[some ⟨117,8,(evC ⟨O,who,s0⟩ i.t).length,cellsE (evC ⟨O,who,s0⟩ i.t)⟩],rowF (pt none 0) (cellsL [])::(i.y.fs i.t++(sgF i.x i.s++(((⟨xa,xc,xL,ta,tc,ea,ec⟩:An).fs (RP,Rr,Re))++(rowF (pt u JL.length) (cellsA JL)::sgF x0 s0))))⟩,[.any,.v (.int .i64 who),.any,.p 0 0,.any,.p 1 0,.any,.v (.slice u JL.length c_u),.any,.v (.slice xa xL.length xc),.p 2 0,.v (.slice ea Re.length ec),.p 3 0,.p 4 0,.r 0,.v (.int .i64 (pn i.t)),.v (.int .i64 i.k),.any,.any,.any,.any,.any,.any,.any,.any,.any,.any,.any,.any,.any,.any,.any,.any,.any,.any,.any,.any,.any,.any,.any,.any,.any,.any,.any,.any,.any,.any,.any,.any,.any,.any,.any,.any,.any,.any,.any,.any,.any,.any,.any,.any,.any,.any,.any,.any,.any,.any,.any,.any,.any,.any,.any,.any,.any,.any,.any,.any,.any,.any,.any,.any,.any,.any,.any,.any,.any,.any,.any,.any,.any,.any,.any,.any,.any,.any,.any,.any,.any,.any,.any,.any,.any,.any,.any,.any,.any,.any,.any,.any,.any,.any,.any,.any,.any,.any,.any,.any,.any,.any,.any,.any,.any,.any,.any,.any,.any,.any,.any,.any,.any,.any,.any,.any,.any,.any,.any,.any,.any,.any,.any,.any,.any,.any,.any,.any,.any,.any,.any,.any,.any,.any,.any,.any,.any,.any,.any,.any,.any,.any,.any,.any,.any,.any,.any,.any,.any,.any,.any,.any,.any,.any,.any,.any,.any,.any,.any,.any,.any,.any])) (fun i=>6 - i.k) ⟨0,newT O,s0,y0,(⟨x0.la,x0.lc,v,c_v,x0.S⟩:Sn)⟩ ⟨Nat.zero_le _,Int.le_refl _,.a0,y0_ok O,hx1⟩ ⟨by repeat' first | exact trivial | refine ⟨.inl rfl,?_⟩ | refine ⟨.inr rfl,?_⟩,⟨by repeat' first | exact trivial | refine ⟨.inl rfl,?_⟩ | refine ⟨.inr rfl,?_⟩,by repeat' first | exact trivial | refine ⟨.inl rfl,?_⟩ | refine ⟨.inr rfl,?_⟩,fun φ h=>entryF (F:=(((⟨xa,xc,xL,ta,tc,ea,ec⟩:An).fs (RP,Rr,Re))++(rowF (pt u JL.length) (cellsA JL)::sgF x0 s0))) (G:=sgF (⟨x0.la,x0.lc,v,c_v,x0.S⟩:Sn) s0) (K:=(rowF (pt v x0.S.length) (cellsS x0.S)::(((⟨xa,xc,xL,ta,tc,ea,ec⟩:An).fs (RP,Rr,Re))++(rowF (pt u JL.length) (cellsA JL)::sgF x0 s0)))) (show φ∈rowF (pt none 0) (cellsL [])::(y0.fs (newT O)++(sgF (⟨x0.la,x0.lc,v,c_v,x0.S⟩:Sn) s0++(((⟨xa,xc,xL,ta,tc,ea,ec⟩:An).fs (RP,Rr,Re))++(rowF (pt u JL.length) (cellsA JL)::sgF x0 s0)))) from h) (fun ψ hψ=>(List.mem_cons.1 hψ).elim (fun e=>e▸(show _∈(rowF (pt v x0.S.length) (cellsS x0.S)::(((⟨xa,xc,xL,ta,tc,ea,ec⟩:An).fs (RP,Rr,Re))++(rowF (pt u JL.length) (cellsA JL)::sgF x0 s0))) from .tail _ (List.mem_append_right _ (.tail _ (.head _))))) fun hψ=>(List.mem_cons.1 hψ).elim (fun e=>(show ψ∈(rowF (pt v x0.S.length) (cellsS x0.S)::(((⟨xa,xc,xL,ta,tc,ea,ec⟩:An).fs (RP,Rr,Re))++(rowF (pt u JL.length) (cellsA JL)::sgF x0 s0))) from List.mem_cons.2 (.inl e))) fun hψ=>(show ψ∈(rowF (pt v x0.S.length) (cellsS x0.S)::(((⟨xa,xc,xL,ta,tc,ea,ec⟩:An).fs (RP,Rr,Re))++(rowF (pt u JL.length) (cellsA JL)::sgF x0 s0))) from .tail _ (List.mem_append_right _ (.tail _ (.tail _ (.tail _ hψ)))))) (fun ψ hψ=>(show ψ∈(rowF (pt v x0.S.length) (cellsS x0.S)::(((⟨xa,xc,xL,ta,tc,ea,ec⟩:An).fs (RP,Rr,Re))++(rowF (pt u JL.length) (cellsA JL)::sgF x0 s0))) from .tail _ hψ))⟩,rfl⟩ ?_
   rintro ⟨k,t,s,y,x⟩ ⟨hk,hkp,hP,hy,hx⟩
   have hk:k≤6:=hk
   have hkp:(k:Int)≤t.ph:=hkp
   have hP:Pth ⟨O,who,s0⟩ t s:=hP
   have hy:y.ok t:=hy
   have hx:Sgo x s:=hx
   have hph:=Pth.ph (c:=⟨O,who,s0⟩) hP
   have hms:=Pth.may (c:=⟨O,who,s0⟩) hmy hw1 hP
   have hLev:(Cx.L ⟨O,who,s0⟩).ev.length≤1000:=evL_sz hd hmy hd0
   by_cases h6:t.ph=6
   rotate_left
   ·have hlt:k<6:=by omega
    have hA:=alone_next (c:=⟨O,who,s0⟩) hmy hw1 hl0 hP h6
    have hN:=next (c:=⟨O,who,s0⟩) hmy hw1 hP
    have hts:=pth_sz (c:=⟨O,who,s0⟩) hd hmy hd0 hP
    have ST:=fun w hM hyf hxf=>task.step t y who s x w hM hy hyf hx hxf hms hts
    have hA:Al ⟨O,who,s0⟩ t s (stepR t who s):=hA
    have hN:Nx ⟨O,who,s0⟩ t s (stepR t who s):=hN
    have hab:ableV t who s=true:=hA.able
    generalize stepR t who s=R at *
    obtain ⟨t',s',ev,p⟩:=R
    conv=>arg 5;whnf
    refine wp_g1 (fun _=>?_) (fun h=>absurd (of_decide_eq_false h) (by show ¬ ¬ (k:Int)<6;omega))
    conv=>arg 5;whnf
    refine wp_br (fun _=>?_) (fun h=>absurd (show t.ph=6 by have h7:(!(t.ph==6))=false:=h;simpa using h7) h6)
    conv=>arg 5;whnf
    refine meetc (f:=15) (v:=.bool true) rfl (by kernel_rfl) (fun β ρ w' hM'=>able_at hab hms y x w' (hM.later hM'.below) hx (fun φ hφ g hg=>(hM'.fact φ (show φ∈(rowF (pt none 0) (cellsL [])::(y.fs t++(sgF x s++(((⟨xa,xc,xL,ta,tc,ea,ec⟩:An).fs (RP,Rr,Re))++(rowF (pt u JL.length) (cellsA JL)::sgF x0 s0))))) from .tail _ (List.mem_append_right _ (List.mem_append_left _ hφ))) g hg).2)) ?_
    conv=>arg 5;whnf
    refine meetSt (f:=16) ⟨t',s',ev,p⟩ [] (by simp) rfl (by kernel_rfl) (fun β ρ w' hM'=>ST w' (hM.later hM'.below) (fun φ hφ g hg=>(hM'.fact φ (show φ∈(rowF (pt none 0) (cellsL [])::(y.fs t++(sgF x s++(((⟨xa,xc,xL,ta,tc,ea,ec⟩:An).fs (RP,Rr,Re))++(rowF (pt u JL.length) (cellsA JL)::sgF x0 s0))))) from .tail _ (List.mem_append_left _ hφ)) g hg).2) (fun φ hφ g hg=>(hM'.fact φ (show φ∈(rowF (pt none 0) (cellsL [])::(y.fs t++(sgF x s++(((⟨xa,xc,xL,ta,tc,ea,ec⟩:An).fs (RP,Rr,Re))++(rowF (pt u JL.length) (cellsA JL)::sgF x0 s0))))) from .tail _ (List.mem_append_right _ (List.mem_append_left _ hφ))) g hg).2)) (fun a ha hnew=>?_)
    obtain ⟨y',x',ea',ec'⟩:=a
    obtain ⟨hy',hx',he'⟩:=ha
    have hy':y'.ok t':=hy'
    have hx':Sgo x' s':=hx'
    have he':Sl ea' ev.length ec':=he'
    have nP:Pth ⟨O,who,s0⟩ t' s':=hN.pth
    have nPt:t'.pt=(t.pt||p):=hN.pt
    have nH:p=true→t.pt=false:=hN.had
    have nU:t.ph+1≤t'.ph:=hA.up
    have nE:evC ⟨O,who,s0⟩ t'=evC ⟨O,who,s0⟩ t++ev:=hA.ev
    have hel:(evC ⟨O,who,s0⟩ t').length≤1000:=by
     unfold task.evC
     split
     ·exact hLev
     ·exact Nat.zero_le _
    have el:(evC ⟨O,who,s0⟩ t').length=(evC ⟨O,who,s0⟩ t).length+ev.length:=by rw [nE,List.length_append]
    have ec1:cellsE (evC ⟨O,who,s0⟩ t')=cellsE (evC ⟨O,who,s0⟩ t)++cellsE ev:=by rw [nE,cellsE_app]
    conv=>arg 5;whnf
    refine wp_br (fun h8=>?_) (fun h8=>?_)
    ·skip
     have hp:p=true:=h8
     have epn:pn t'=pn t+1:=by unfold pn;rw [nPt,nH hp,hp];rfl
     have hpn:pn t=0:=by unfold pn;rw [nH hp];rfl
     conv=>arg 5;whnf
     refine wp_must ⟨by show -9223372036854775808≤pn t+1;omega,by show pn t+1≤9223372036854775807;omega⟩ ?_
     conv=>arg 5;whnf
     refine ⟨cellsE ev,by rw [cellsE_length],cellsE_one _,fun β ρ w' hM' ad had j uu hu=>?_,?_⟩
     ·have h4:=hM'.at_ (show rowF (pt ea' ev.length) (cellsE ev)∈((⟨y',x',ea',ec'⟩:Sa).fs ⟨t',s',ev,p⟩++(rowF (pt none 0) (cellsL [])::(y.fs t++(sgF x s++(((⟨xa,xc,xL,ta,tc,ea,ec⟩:An).fs (RP,Rr,Re))++(rowF (pt u JL.length) (cellsA JL)::sgF x0 s0)))))) from List.mem_append_left _ (.head _))
      subst had
      rw [pt_pos (k:=0) (by have:=(List.getElem?_eq_some_iff.1 hu).1;rw [cellsE_length] at this;omega)] at h4
      exact h4.cell hu
     conv=>arg 5;whnf
     refine wp_must ⟨by show (evC ⟨O,who,s0⟩ t).length+ev.length≤maxLen;unfold maxLen;omega,by show ((evC ⟨O,who,s0⟩ t).length+ev.length)*72≤140737488355328;omega,fun h=>he'.2.2 h⟩ ?_
     conv=>arg 5;whnf
     refine wp_must ⟨by show -9223372036854775808≤(k:Int)+1;omega,by show (k:Int)+1≤9223372036854775807;omega⟩ ?_
     conv=>arg 5;whnf
     refine wp_end ⟨⟨k+1,t',s',y',x'⟩,⟨hlt,by show ((k+1:Nat):Int)≤t'.ph;omega,nP,hy',hx'⟩,⟨by repeat' first | exact trivial | refine ⟨.inl rfl,?_⟩ | refine ⟨.inr rfl,?_⟩ | refine ⟨.inr (congrArg (fun z:Int=>Sx.T.v (Value.int .i64 z)) epn.symm),?_⟩,⟨by repeat' first | exact trivial | refine ⟨.inl rfl,?_⟩ | refine ⟨.inr rfl,?_⟩ | refine ⟨.inr (congrArg (fun z:Int=>Sx.T.v (Value.int .i64 z)) epn.symm),?_⟩,by simp only [];rw [ec1,el];repeat' first | exact trivial | refine ⟨.inl rfl,?_⟩ | refine ⟨.inr rfl,?_⟩ | refine ⟨.inr (congrArg (fun z:Int=>Sx.T.v (Value.int .i64 z)) epn.symm),?_⟩,fun φ h=>endF (A:=rowF (pt ea' ev.length) (cellsE ev)) (Y:=y'.fs t') (X:=sgF x' s') (X0:=(((⟨xa,xc,xL,ta,tc,ea,ec⟩:An).fs (RP,Rr,Re))++(rowF (pt u JL.length) (cellsA JL)::sgF x0 s0))) (H:=(rowF (pt none 0) (cellsL [])::(y.fs t++(sgF x s++(((⟨xa,xc,xL,ta,tc,ea,ec⟩:An).fs (RP,Rr,Re))++(rowF (pt u JL.length) (cellsA JL)::sgF x0 s0)))))) (show φ∈rowF (pt none 0) (cellsL [])::(y'.fs t'++(sgF x' s'++(((⟨xa,xc,xL,ta,tc,ea,ec⟩:An).fs (RP,Rr,Re))++(rowF (pt u JL.length) (cellsA JL)::sgF x0 s0)))) from h) (show _∈((⟨y',x',ea',ec'⟩:Sa).fs ⟨t',s',ev,p⟩++(rowF (pt none 0) (cellsL [])::(y.fs t++(sgF x s++(((⟨xa,xc,xL,ta,tc,ea,ec⟩:An).fs (RP,Rr,Re))++(rowF (pt u JL.length) (cellsA JL)::sgF x0 s0)))))) from List.mem_append_right _ (.head _)) (fun ψ hψ=>hψ) (fun ψ hψ=>.tail _ (List.mem_append_right _ (List.mem_append_right _ hψ)))⟩,rfl⟩,by show 6 - (k+1)<6 - k;omega⟩
    ·skip
     have hp:p=false:=h8
     have epn:pn t'=pn t:=by unfold pn;rw [nPt,hp,Bool.or_false]
     conv=>arg 5;whnf
     refine ⟨cellsE ev,by rw [cellsE_length],cellsE_one _,fun β ρ w' hM' ad had j uu hu=>?_,?_⟩
     ·have h4:=hM'.at_ (show rowF (pt ea' ev.length) (cellsE ev)∈((⟨y',x',ea',ec'⟩:Sa).fs ⟨t',s',ev,p⟩++(rowF (pt none 0) (cellsL [])::(y.fs t++(sgF x s++(((⟨xa,xc,xL,ta,tc,ea,ec⟩:An).fs (RP,Rr,Re))++(rowF (pt u JL.length) (cellsA JL)::sgF x0 s0)))))) from List.mem_append_left _ (.head _))
      subst had
      rw [pt_pos (k:=0) (by have:=(List.getElem?_eq_some_iff.1 hu).1;rw [cellsE_length] at this;omega)] at h4
      exact h4.cell hu
     conv=>arg 5;whnf
     refine wp_must ⟨by show (evC ⟨O,who,s0⟩ t).length+ev.length≤maxLen;unfold maxLen;omega,by show ((evC ⟨O,who,s0⟩ t).length+ev.length)*72≤140737488355328;omega,fun h=>he'.2.2 h⟩ ?_
     conv=>arg 5;whnf
     refine wp_must ⟨by show -9223372036854775808≤(k:Int)+1;omega,by show (k:Int)+1≤9223372036854775807;omega⟩ ?_
     conv=>arg 5;whnf
     refine wp_end ⟨⟨k+1,t',s',y',x'⟩,⟨hlt,by show ((k+1:Nat):Int)≤t'.ph;omega,nP,hy',hx'⟩,⟨by repeat' first | exact trivial | refine ⟨.inl rfl,?_⟩ | refine ⟨.inr rfl,?_⟩ | refine ⟨.inr (congrArg (fun z:Int=>Sx.T.v (Value.int .i64 z)) epn.symm),?_⟩,⟨by repeat' first | exact trivial | refine ⟨.inl rfl,?_⟩ | refine ⟨.inr rfl,?_⟩ | refine ⟨.inr (congrArg (fun z:Int=>Sx.T.v (Value.int .i64 z)) epn.symm),?_⟩,by simp only [];rw [ec1,el];repeat' first | exact trivial | refine ⟨.inl rfl,?_⟩ | refine ⟨.inr rfl,?_⟩ | refine ⟨.inr (congrArg (fun z:Int=>Sx.T.v (Value.int .i64 z)) epn.symm),?_⟩,fun φ h=>endF (A:=rowF (pt ea' ev.length) (cellsE ev)) (Y:=y'.fs t') (X:=sgF x' s') (X0:=(((⟨xa,xc,xL,ta,tc,ea,ec⟩:An).fs (RP,Rr,Re))++(rowF (pt u JL.length) (cellsA JL)::sgF x0 s0))) (H:=(rowF (pt none 0) (cellsL [])::(y.fs t++(sgF x s++(((⟨xa,xc,xL,ta,tc,ea,ec⟩:An).fs (RP,Rr,Re))++(rowF (pt u JL.length) (cellsA JL)::sgF x0 s0)))))) (show φ∈rowF (pt none 0) (cellsL [])::(y'.fs t'++(sgF x' s'++(((⟨xa,xc,xL,ta,tc,ea,ec⟩:An).fs (RP,Rr,Re))++(rowF (pt u JL.length) (cellsA JL)::sgF x0 s0)))) from h) (show _∈((⟨y',x',ea',ec'⟩:Sa).fs ⟨t',s',ev,p⟩++(rowF (pt none 0) (cellsL [])::(y.fs t++(sgF x s++(((⟨xa,xc,xL,ta,tc,ea,ec⟩:An).fs (RP,Rr,Re))++(rowF (pt u JL.length) (cellsA JL)::sgF x0 s0)))))) from List.mem_append_right _ (.head _)) (fun ψ hψ=>hψ) (fun ψ hψ=>.tail _ (List.mem_append_right _ (List.mem_append_right _ hψ)))⟩,rfl⟩,by show 6 - (k+1)<6 - k;omega⟩
   ·obtain ⟨aPt,aD,aT,aL⟩:=AE hP h6
    have aL:s.l=s0.l:=aL
    have e1:RP=joinS s.S:=congrArg Prod.fst aD
    have e2:Rr=t.r:=congrArg (fun z=>z.2.1) aD
    have e3:Re=evC ⟨O,who,s0⟩ t:=congrArg (fun z=>z.2.2) aD
    have hpn1:pn t=1:=by unfold pn;rw [aPt];rfl
    have hxS':=sgs_len hx
    have hS8':=(may_small hms).2
    have hmap':(srt (fun z:Ac=>z.s) (allS x.S)).map acP=joinS s.S:=by rw [join_map,hx.2.2.2]
    have hall':=all256 hms hx
    subst e1 e2 e3
    have hjf2:=join_facts hx
    have hjl2:=srt_len (fun z:Ac=>z.s) (allS x.S)
    have RJ2:=fun u cu w hS=>rjoin x.S u x.S.length cu w hS (by omega) hall'
    generalize srt (fun z:Ac=>z.s) (allS x.S)=JY at *
    conv=>arg 5;whnf
    refine wp_g1 (fun h7=>?_) (fun h7=>?_)
    all_goals (conv=>arg 5;whnf)
    all_goals try refine wp_br (fun h=>absurd h (by show ¬ (!(t.ph==6))=true;rw [h6];simp)) (fun _=>?_)
    all_goals
     conv=>arg 5;whnf
     refine meet1F (f:=17) (n:=x.S.length) (v:=fun a1 c1=>sgV s ⟨x.la,x.lc,a1,c1,x.S⟩) (xs:=cellsS x.S) rfl (by kernel_rfl) (fun β ρ w' hM'=>toldS s x w' hx.1 hx.2.1 (hM'.at_ (show rowF (pt x.sa x.S.length) (cellsS x.S)∈(rowF (pt none 0) (cellsL [])::(y.fs t++(sgF x s++(((⟨xa,xc,xL,ta,tc,ea,ec⟩:An).fs (joinS s.S,t.r,evC ⟨O,who,s0⟩ t))++(rowF (pt u JL.length) (cellsA JL)::sgF x0 s0))))) from .tail _ (List.mem_append_right _ (List.mem_append_left _ (.tail _ (.head _)))))) (by omega)) (fun g c_g h_g f_g=>?_)
     have hx9:Sgo (⟨x.la,x.lc,g,c_g,x.S⟩:Sn) s:=⟨hx.1,h_g,hx.2.2.1,hx.2.2.2⟩
     conv=>arg 5;whnf
     refine wp_g0 (fun _=>?_) (fun h=>absurd h (by show ¬ (!(t.ph==6))=true;rw [h6];simp))
     conv=>arg 5;whnf
     refine wp_g0 (fun _=>?_) (fun h=>absurd h (by show ¬ (!(pn t==1))=true;rw [hpn1];simp))
     conv=>arg 5;whnf
     refine meetc (f:=8) (v:=.bool true) rfl (by kernel_rfl) (fun β ρ w' hM'=>hms▸rmay s (⟨x.la,x.lc,g,c_g,x.S⟩:Sn) w' (hM.later hM'.below) (sgs_of hM' hx9 fun φ hφ=>(show φ∈(rowF (pt g x.S.length) (cellsS x.S)::(rowF (pt none 0) (cellsL [])::(y.fs t++(sgF x s++(((⟨xa,xc,xL,ta,tc,ea,ec⟩:An).fs (joinS s.S,t.r,evC ⟨O,who,s0⟩ t))++(rowF (pt u JL.length) (cellsA JL)::sgF x0 s0)))))) from (List.mem_cons.1 hφ).elim (fun e=>e▸(.tail _ (.tail _ (List.mem_append_right _ (List.mem_append_left _ (.head _)))))) fun hφ=>(List.mem_cons.1 hφ).elim (fun e=>e▸(.head _)) fun hφ=>(.tail _ (.tail _ (List.mem_append_right _ (List.mem_append_left _ (.tail _ (.tail _ hφ)))))))) (fun q hq=>Nat.le_trans (sgs_n hx9 (n:=256) (fun q hq=>by obtain ⟨j,hj⟩:=List.mem_iff_getElem?.1 hq;exact may_len hms hj) q hq) (by decide))) ?_
     conv=>arg 5;whnf
     refine meetc (f:=18) (v:=.bool true) rfl (by kernel_rfl) (fun β ρ w' hM'=>rsameR t.r y.a y.c ta tc w' hy.2 (hM'.at_ (show rowF (pt y.a t.r.l.length) (cellsL t.r.l)∈(rowF (pt g x.S.length) (cellsS x.S)::(rowF (pt none 0) (cellsL [])::(y.fs t++(sgF x s++(((⟨xa,xc,xL,ta,tc,ea,ec⟩:An).fs (joinS s.S,t.r,evC ⟨O,who,s0⟩ t))++(rowF (pt u JL.length) (cellsA JL)::sgF x0 s0)))))) from .tail _ (.tail _ (List.mem_append_left _ (List.mem_append_right _ (.head _)))))) x4 (hM'.at_ (show rowF (pt ta t.r.l.length) (cellsL t.r.l)∈(rowF (pt g x.S.length) (cellsS x.S)::(rowF (pt none 0) (cellsL [])::(y.fs t++(sgF x s++(((⟨xa,xc,xL,ta,tc,ea,ec⟩:An).fs (joinS s.S,t.r,evC ⟨O,who,s0⟩ t))++(rowF (pt u JL.length) (cellsA JL)::sgF x0 s0)))))) from .tail _ (.tail _ (List.mem_append_right _ (List.mem_append_right _ (.head _))))))) ?_
     conv=>arg 5;whnf
     refine wp_share fun zz c_z h_z f_z=>?_
     conv=>arg 5;whnf
     refine meetc (f:=19) (v:=.bool true) rfl (by kernel_rfl) (fun β ρ w' hM'=>revents (evC ⟨O,who,s0⟩ t) zz c_z ea ec w' h_z (atPt _ (hM'.at_ (show rowF zz (cellsE (evC ⟨O,who,s0⟩ t))∈(rowF zz (cellsE (evC ⟨O,who,s0⟩ t))::(rowF (pt g x.S.length) (cellsS x.S)::(rowF (pt none 0) (cellsL [])::(y.fs t++(sgF x s++(((⟨xa,xc,xL,ta,tc,ea,ec⟩:An).fs (joinS s.S,t.r,evC ⟨O,who,s0⟩ t))++(rowF (pt u JL.length) (cellsA JL)::sgF x0 s0))))))) from .head _))) x5 (hM'.at_ (show rowF (pt ea (evC ⟨O,who,s0⟩ t).length) (cellsE (evC ⟨O,who,s0⟩ t))∈(rowF zz (cellsE (evC ⟨O,who,s0⟩ t))::(rowF (pt g x.S.length) (cellsS x.S)::(rowF (pt none 0) (cellsL [])::(y.fs t++(sgF x s++(((⟨xa,xc,xL,ta,tc,ea,ec⟩:An).fs (joinS s.S,t.r,evC ⟨O,who,s0⟩ t))++(rowF (pt u JL.length) (cellsA JL)::sgF x0 s0))))))) from .tail _ (.tail _ (.tail _ (List.mem_append_right _ (List.mem_append_right _ (.tail _ (.head _))))))))) ?_
     conv=>arg 5;whnf
     refine meet1F (f:=10) (n:=JY.length) (v:=fun a1 c1=>.slice a1 JY.length c1) (xs:=cellsA JY) rfl (by kernel_rfl) (fun β ρ w' hM'=>RJ2 g c_g w' (sgs_of hM' hx9 fun φ hφ=>(show φ∈(rowF zz (cellsE (evC ⟨O,who,s0⟩ t))::(rowF (pt g x.S.length) (cellsS x.S)::(rowF (pt none 0) (cellsL [])::(y.fs t++(sgF x s++(((⟨xa,xc,xL,ta,tc,ea,ec⟩:An).fs (joinS s.S,t.r,evC ⟨O,who,s0⟩ t))++(rowF (pt u JL.length) (cellsA JL)::sgF x0 s0))))))) from (List.mem_cons.1 hφ).elim (fun e=>e▸.tail _ ((.tail _ (.tail _ (List.mem_append_right _ (List.mem_append_left _ (.head _))))))) fun hφ=>(List.mem_cons.1 hφ).elim (fun e=>e▸.tail _ ((.head _))) fun hφ=>.tail _ ((.tail _ (.tail _ (List.mem_append_right _ (List.mem_append_left _ (.tail _ (.tail _ hφ))))))))).2.1) (fun j c_j h_j f_j=>?_)
     conv=>arg 5;whnf
     refine meetc (f:=11) (v:=.int .i64 (slotsA JY)) rfl (by kernel_rfl) (fun β ρ w' hM'=>rslots JY j JY.length c_j w' (⟨h_j,rfl,hM'.at_ (show rowF (pt j JY.length) (cellsA JY)∈(rowF (pt j JY.length) (cellsA JY)::(rowF zz (cellsE (evC ⟨O,who,s0⟩ t))::(rowF (pt g x.S.length) (cellsS x.S)::(rowF (pt none 0) (cellsL [])::(y.fs t++(sgF x s++(((⟨xa,xc,xL,ta,tc,ea,ec⟩:An).fs (joinS s.S,t.r,evC ⟨O,who,s0⟩ t))++(rowF (pt u JL.length) (cellsA JL)::sgF x0 s0)))))))) from .head _),fun z hz=>⟨(hjf2 z hz).1,hM'.at_ (a:=pt z.a z.n) (xs:=cellsL z.l) (show acF z∈(rowF (pt j JY.length) (cellsA JY)::(rowF zz (cellsE (evC ⟨O,who,s0⟩ t))::(rowF (pt g x.S.length) (cellsS x.S)::(rowF (pt none 0) (cellsL [])::(y.fs t++(sgF x s++(((⟨xa,xc,xL,ta,tc,ea,ec⟩:An).fs (joinS s.S,t.r,evC ⟨O,who,s0⟩ t))++(rowF (pt u JL.length) (cellsA JL)::sgF x0 s0)))))))) from .tail _ (.tail _ (.tail _ ((.tail _ (List.mem_append_right _ (List.mem_append_left _ (hjf2 z hz).2)))))))⟩⟩:Acs w' j JY.length c_j JY) (by omega)) ?_
     conv=>arg 5;whnf
     refine wp_br (fun h=>absurd h (by show ¬ (!(s.t==slotsA JY))=true;rw [slotsA_P,hmap',← aT];simp)) (fun _=>?_)
     conv=>arg 5;whnf
     refine loop_rule Sxt.env_ok.keeps [(7,(line [0,1,2,3,4,5,6,7,8,9,10,11,12,13],[])),(26,(line [0,1,2,3,4,5,6,7,8,9,10,11,12,13,14,15,16,17,18,19,20,21,22,23,24,25,26,27,28,29,30,31,32,33,34],[]))] (schedQ_ok _ _ (by kernel_rfl)) (fun k:Nat=>k≤s.l.length) (fun k=>(⟨[some ([.v (.int .i64 O.k),.v (.int .i64 O.s),.v (.int .i64 O.v),.v (.int .i64 O.g),.v (.string O.d)],23),some ([.v (.int .i64 s0.C.sh),.v (.int .i64 s0.C.so),.v (.int .i64 s0.C.hd),.v (.int .i64 s0.C.per),.v (.int .i64 s0.C.bp),.v (.int .i64 s0.C.fd),.v (.int .i64 s0.C.wk),.v (.int .i64 s0.C.rm),.v (.slice x0.la s0.l.length x0.lc),.v (.int .i64 s0.t),.v (.int .i64 s0.m),.v (.slice x0.sa x0.S.length x0.sc)],31),some ([.v (.int .i64 t.r.e),.v (.int .i64 t.r.t.s),.v (.int .i64 t.r.t.n),.v (.int .i64 t.r.t.t),.v (.int .i64 t.r.t.c),.v (.int .i64 t.r.t.g),.v (.string t.r.t.d),.v (.slice ta t.r.l.length tc),.v (.int .i64 t.r.n)],42),some ([.v (.int .i64 t.O.k),.v (.int .i64 t.O.s),.v (.int .i64 t.O.v),.v (.int .i64 t.O.g),.v (.string t.O.d),.v (.int .i64 t.ph),.v (.int .i64 t.s),.v (.bool t.P.ch),.v (.int .i64 t.P.dl),.v (.int .i64 t.P.s),.v (.int .i64 t.P.b),.v (.slice y.x.a t.P.l.length y.x.c),.v (.slice y.x.ea t.P.ev.length y.x.ec),.v (.int .i64 t.P.r.e),.v (.int .i64 t.P.r.t.s),.v (.int .i64 t.P.r.t.n),.v (.int .i64 t.P.r.t.t),.v (.int .i64 t.P.r.t.c),.v (.int .i64 t.P.r.t.g),.v (.string t.P.r.t.d),.v (.slice y.x.ta t.P.r.l.length y.x.tc),.v (.int .i64 t.P.r.n),.v (.int .i64 t.r.e),.v (.int .i64 t.r.t.s),.v (.int .i64 t.r.t.n),.v (.int .i64 t.r.t.t),.v (.int .i64 t.r.t.c),.v (.int .i64 t.r.t.g),.v (.string t.r.t.d),.v (.slice y.a t.r.l.length y.c),.v (.int .i64 t.r.n),.v (.bool t.pt)],52),some ([.v (.int .i64 s.C.sh),.v (.int .i64 s.C.so),.v (.int .i64 s.C.hd),.v (.int .i64 s.C.per),.v (.int .i64 s.C.bp),.v (.int .i64 s.C.fd),.v (.int .i64 s.C.wk),.v (.int .i64 s.C.rm),.v (.slice x.la s.l.length x.lc),.v (.int .i64 s.t),.v (.int .i64 s.m),.v (.slice x.sa x.S.length x.sc)],58),some ([.v (.int .i64 s.C.sh),.v (.int .i64 s.C.so),.v (.int .i64 s.C.hd),.v (.int .i64 s.C.per),.v (.int .i64 s.C.bp),.v (.int .i64 s.C.fd),.v (.int .i64 s.C.wk),.v (.int .i64 s.C.rm),.v (.slice (⟨x.la,x.lc,g,c_g,x.S⟩:Sn).la s.l.length (⟨x.la,x.lc,g,c_g,x.S⟩:Sn).lc),.v (.int .i64 s.t),.v (.int .i64 s.m),.v (.slice (⟨x.la,x.lc,g,c_g,x.S⟩:Sn).sa (⟨x.la,x.lc,g,c_g,x.S⟩:Sn).S.length (⟨x.la,x.lc,g,c_g,x.S⟩:Sn).sc)],31)],[],(rowF (pt j JY.length) (cellsA JY)::(rowF zz (cellsE (evC ⟨O,who,s0⟩ t))::(rowF (pt g x.S.length) (cellsS x.S)::(rowF (pt none 0) (cellsL [])::(y.fs t++(sgF x s++(((⟨xa,xc,xL,ta,tc,ea,ec⟩:An).fs (joinS s.S,t.r,evC ⟨O,who,s0⟩ t))++(rowF (pt u JL.length) (cellsA JL)::sgF x0 s0))))))))⟩,[.any,.v (.int .i64 who),.any,.p 0 0,.any,.p 1 0,.any,.v (.slice u JL.length c_u),.any,.v (.slice xa xL.length xc),.p 2 0,.any,.p 3 0,.p 4 0,.any,.any,.any,.any,.any,.any,.any,.p 5 0,.v (.int .i64 k),.any,.any,.any,.any,.any,.any,.any,.any,.any,.any,.any,.any,.any,.any,.any,.any,.any,.any,.any,.any,.any,.any,.any,.any,.any,.any,.any,.any,.any,.any,.any,.any,.any,.any,.any,.any,.any,.any,.any,.any,.any,.any,.any,.any,.any,.any,.any,.any,.any,.any,.any,.any,.any,.any,.any,.any,.any,.any,.any,.any,.any,.any,.any,.any,.any,.any,.any,.any,.any,.any,.any,.any,.any,.any,.any,.any,.any,.any,.any,.any,.any,.any,.any,.any,.any,.any,.any,.any,.any,.any,.any,.any,.any,.any,.any,.any,.any,.any,.any,.any,.any,.any,.any,.any,.any,.any,.any,.any,.any,.any,.any,.any,.any,.any,.any,.any,.any,.any,.any,.any,.any,.any,.any,.any,.any,.any,.any,.any,.any,.any,.any,.any,.any,.any,.any,.any,.any,.any,.any,.any,.any,.any,.any,.any,.any,.any,.any,.any,.any,.any,.any,.any,.any,.any,.any,.any])) (fun k=>s.l.length - k) 0 (Nat.zero_le _) ⟨by repeat' first | exact trivial | refine ⟨.inl rfl,?_⟩ | refine ⟨.inr rfl,?_⟩,⟨by repeat' first | exact trivial | refine ⟨.inl rfl,?_⟩ | refine ⟨.inr rfl,?_⟩,by repeat' first | exact trivial | refine ⟨.inl rfl,?_⟩ | refine ⟨.inr rfl,?_⟩,fun _ h=>h⟩,rfl⟩ ?_
     intro k2 hk2
     conv=>arg 5;whnf
     refine wp_br (fun h3=>?_) (fun h3=>?_)
     ·have hlt:k2<s.l.length:=by have h4:=of_decide_eq_true (show decide ((k2:Int)<(s.l.length:Int))=true from h3);omega
      obtain ⟨z,hz⟩:∃z,s.l[k2]?=some z:=⟨_,List.getElem?_eq_getElem hlt⟩
      have hl63:=hx.1.le
      have hz0:z=0:=hl0 z (aL▸List.mem_of_getElem? hz)
      conv=>arg 5;whnf
      refine wp_must ⟨by omega,by show (k2:Int)<(s.l.length:Int);omega,hx.1.some hlt⟩ ?_
      conv=>arg 5;whnf
      refine readF (sz:=1) (k:=k2) (f:=0) (.int .i64 z) rfl (show rowF (pt x.la s.l.length) (ic s.l)∈(rowF (pt j JY.length) (cellsA JY)::(rowF zz (cellsE (evC ⟨O,who,s0⟩ t))::(rowF (pt g x.S.length) (cellsS x.S)::(rowF (pt none 0) (cellsL [])::(y.fs t++(sgF x s++(((⟨xa,xc,xL,ta,tc,ea,ec⟩:An).fs (joinS s.S,t.r,evC ⟨O,who,s0⟩ t))++(rowF (pt u JL.length) (cellsA JL)::sgF x0 s0)))))))) from .tail _ (.tail _ (.tail _ ((.tail _ (List.mem_append_right _ (List.mem_append_left _ (.head _)))))))) hlt (hx.1.some hlt) (by rw [show k2*1+0=k2 by omega];exact ic_get hz) rfl ?_
      conv=>arg 5;whnf
      refine wp_br (fun h=>absurd h (by show ¬ (!(z==0))=true;rw [hz0];simp)) (fun _=>?_)
      conv=>arg 5;whnf
      refine wp_must ⟨by show -9223372036854775808≤(k2:Int)+1;omega,by show (k2:Int)+1≤9223372036854775807;omega⟩ ?_
      conv=>arg 5;whnf
      refine wp_end ⟨k2+1,hlt,⟨by repeat' first | exact trivial | refine ⟨.inl rfl,?_⟩ | refine ⟨.inr rfl,?_⟩,⟨by repeat' first | exact trivial | refine ⟨.inl rfl,?_⟩ | refine ⟨.inr rfl,?_⟩,by repeat' first | exact trivial | refine ⟨.inl rfl,?_⟩ | refine ⟨.inr rfl,?_⟩,fun _ h=>h⟩,rfl⟩,by show s.l.length - (k2+1)<s.l.length - k2;omega⟩
     ·skip
      conv=>arg 5;whnf
      refine meet1F (f:=10) (n:=JY.length) (v:=fun a1 c1=>.slice a1 JY.length c1) (xs:=cellsA JY) rfl (by kernel_rfl) (fun β ρ w' hM'=>RJ2 g c_g w' (sgs_of hM' hx9 fun φ hφ=>(show φ∈(rowF (pt j JY.length) (cellsA JY)::(rowF zz (cellsE (evC ⟨O,who,s0⟩ t))::(rowF (pt g x.S.length) (cellsS x.S)::(rowF (pt none 0) (cellsL [])::(y.fs t++(sgF x s++(((⟨xa,xc,xL,ta,tc,ea,ec⟩:An).fs (joinS s.S,t.r,evC ⟨O,who,s0⟩ t))++(rowF (pt u JL.length) (cellsA JL)::sgF x0 s0)))))))) from (List.mem_cons.1 hφ).elim (fun e=>e▸.tail _ (.tail _ ((.tail _ (.tail _ (List.mem_append_right _ (List.mem_append_left _ (.head _)))))))) fun hφ=>(List.mem_cons.1 hφ).elim (fun e=>e▸.tail _ (.tail _ ((.head _)))) fun hφ=>.tail _ (.tail _ ((.tail _ (.tail _ (List.mem_append_right _ (List.mem_append_left _ (.tail _ (.tail _ hφ)))))))))).2.1) (fun j2 c_j2 h_j2 f_j2=>?_)
      conv=>arg 5;whnf
      refine meetc (f:=20) (v:=.bool true) rfl (by kernel_rfl) (fun β ρ w' hM'=>raccounts JY xL (hmap'.trans x1.symm) j2 JY.length c_j2 xa xL.length xc w' (⟨h_j2,rfl,hM'.at_ (show rowF (pt j2 JY.length) (cellsA JY)∈(rowF (pt j2 JY.length) (cellsA JY)::(rowF (pt j JY.length) (cellsA JY)::(rowF zz (cellsE (evC ⟨O,who,s0⟩ t))::(rowF (pt g x.S.length) (cellsS x.S)::(rowF (pt none 0) (cellsL [])::(y.fs t++(sgF x s++(((⟨xa,xc,xL,ta,tc,ea,ec⟩:An).fs (joinS s.S,t.r,evC ⟨O,who,s0⟩ t))++(rowF (pt u JL.length) (cellsA JL)::sgF x0 s0))))))))) from .head _),fun z hz=>⟨(hjf2 z hz).1,hM'.at_ (a:=pt z.a z.n) (xs:=cellsL z.l) (show acF z∈(rowF (pt j2 JY.length) (cellsA JY)::(rowF (pt j JY.length) (cellsA JY)::(rowF zz (cellsE (evC ⟨O,who,s0⟩ t))::(rowF (pt g x.S.length) (cellsS x.S)::(rowF (pt none 0) (cellsL [])::(y.fs t++(sgF x s++(((⟨xa,xc,xL,ta,tc,ea,ec⟩:An).fs (joinS s.S,t.r,evC ⟨O,who,s0⟩ t))++(rowF (pt u JL.length) (cellsA JL)::sgF x0 s0))))))))) from .tail _ (.tail _ (.tail _ (.tail _ ((.tail _ (List.mem_append_right _ (List.mem_append_left _ (hjf2 z hz).2))))))))⟩⟩:Acs w' j2 JY.length c_j2 JY) (acs_of hM' x3 rfl x2 fun φ hφ=>(show φ∈(rowF (pt j2 JY.length) (cellsA JY)::(rowF (pt j JY.length) (cellsA JY)::(rowF zz (cellsE (evC ⟨O,who,s0⟩ t))::(rowF (pt g x.S.length) (cellsS x.S)::(rowF (pt none 0) (cellsL [])::(y.fs t++(sgF x s++(((⟨xa,xc,xL,ta,tc,ea,ec⟩:An).fs (joinS s.S,t.r,evC ⟨O,who,s0⟩ t))++(rowF (pt u JL.length) (cellsA JL)::sgF x0 s0))))))))) from .tail _ (.tail _ (.tail _ (.tail _ ((.tail _ (List.mem_append_right _ (List.mem_append_right _ (List.mem_append_left _ (.tail _ (.tail _ hφ))))))))))))) ?_
      conv=>arg 5;whnf
      refine meetc (f:=9) (v:=.bool true) rfl (by kernel_rfl) (fun β ρ w' hM'=>task.live w' (hM.later hM'.below)) ?_
      conv=>arg 5;whnf
      exact wp_back fun β ρ w' hM'=>⟨rfl,hM'.below⟩
end Go.Proofs.YtmoopmcdolonjaaGreatDoor.taskAlone
