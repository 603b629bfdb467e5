/- The walk of hopperlaw16.TaskPoint. -/
import Derived.Test.YtmoopmcdolonjaaGreatDoorKTkW
import Derived.Test.YtmoopmcdolonjaaGreatDoorKTkRR
set_option linter.all false
set_option maxHeartbeats 4000000
set_option maxRecDepth 100000
namespace Go.Proofs.YtmoopmcdolonjaaGreatDoor.taskPoint
open Go.RowKit Sx txn queue greedy shard pool Go.Proofs.YtmoopmcdolonjaaGreatDoor.look lock Go.Proofs.YtmoopmcdolonjaaGreatDoor.task
structure Ix where
 k:Nat
 t:Tk
 s:Sg
 y:Tn
 x:Sn
 r:Rq
 ra:Option Addr
 rc:Nat
def Ix.ok (c:Cx) (i:Ix):Prop:=i.k≤8∧Pth c i.t i.s∧i.y.ok i.t∧Sgo i.x i.s∧Sl i.ra i.r.l.length i.rc∧(i.t.pt=true→i.t.r=i.r)
theorem walk (O:Oq) (who:Int) (s0:Sg) (x0:Sn) (w:World) (hM:Most w) (hO:O.fits) (hW:Fits who) (hI:SgIn w x0 s0∧s0.fits) :
  Calls Tryz.prog 6 (List.toArray [O.val,.int .i64 who,sgV s0 x0]) w fun e w'=>e=.returned (.bool true)∧Below w.heap.size w w':=by
 obtain ⟨hI,_⟩:=hI
 have SM:=fun w' (h:SgIn w' x0 s0)=>small s0 x0 w' h
 have hsm:=fun (hb:smallB x0 s0=true)=>hI.small hb
 generalize smallB x0 s0=sb at *
 refine calls_of_exec Sxt.env_ok.keeps Tryz.func6 rfl [] (schedQ_ok _ _ (by kernel_rfl)) (sgF x0 s0) hI.facts ?_
 conv=>arg 5;whnf
 refine meetc (f:=7) (v:=.bool sb) rfl (by kernel_rfl) (fun β ρ w' hM'=>SM w' (hI.mem hM' fun φ hφ=>hφ)) ?_
 cases sb with
 | false=>
  conv=>arg 5;whnf
  refine meetc (f:=9) (v:=.bool true) rfl (by kernel_rfl) (fun β ρ w' hM'=>task.live w' (hM.later hM'.below)) ?_
  conv=>arg 5;whnf
  exact wp_back fun β ρ w' hM'=>⟨rfl,hM'.below⟩
 | true=>
  obtain ⟨hx0,hl10,hS10,hq20,hz20⟩:=hsm rfl
  conv=>arg 5;whnf
  refine wp_g0 (fun h1=>?_) (fun h1=>?_)
  rotate_left
  ·skip
   conv=>arg 5;whnf
   refine meetc (f:=9) (v:=.bool true) rfl (by kernel_rfl) (fun β ρ w' hM'=>task.live w' (hM.later hM'.below)) ?_
   conv=>arg 5;whnf
   exact wp_back fun β ρ w' hM'=>⟨rfl,hM'.below⟩
  have hd:O.d.size≤1000000:=by have h2:¬ (500:Int)<(O.d.size:Int):=of_decide_eq_false h1;omega
  have MY:=fun w hM hS=>rmay s0 x0 w hM hS (fun q hq=>Nat.le_trans (hq20 q hq) (by decide))
  cases hmy:mayS s0 with
  | false=>
   rw [hmy] at MY
   conv=>arg 5;whnf
   refine meetc (f:=8) (v:=.bool false) rfl (by kernel_rfl) (fun β ρ w' hM'=>MY w' (hM.later hM'.below) (sgs_of hM' hx0 fun φ hφ=>hφ)) ?_
   conv=>arg 5;whnf
   refine meetc (f:=9) (v:=.bool true) rfl (by kernel_rfl) (fun β ρ w' hM'=>task.live w' (hM.later hM'.below)) ?_
   conv=>arg 5;whnf
   exact wp_back fun β ρ w' hM'=>⟨rfl,hM'.below⟩
  | true=>
   rw [hmy] at MY
   conv=>arg 5;whnf
   refine meetc (f:=8) (v:=.bool true) rfl (by kernel_rfl) (fun β ρ w' hM'=>MY w' (hM.later hM'.below) (sgs_of hM' hx0 fun φ hφ=>hφ)) ?_
   conv=>arg 5;whnf
   refine wp_br (fun h2=>?_) (fun h2=>?_)
   ·skip
    conv=>arg 5;whnf
    refine meetc (f:=9) (v:=.bool true) rfl (by kernel_rfl) (fun β ρ w' hM'=>task.live w' (hM.later hM'.below)) ?_
    conv=>arg 5;whnf
    exact wp_back fun β ρ w' hM'=>⟨rfl,hM'.below⟩
   have hw1:1≤who:=by have h3:¬ who<1:=of_decide_eq_false h2;omega
   conv=>arg 5;whnf
   refine meetc (f:=13) (v:=tkV (newT O) y0) rfl (by kernel_rfl) (fun β ρ w' hM'=>new_any w') ?_
   conv=>arg 5;whnf
   refine meet1F (f:=14) (n:=x0.S.length) (v:=fun a1 c1=>sgV s0 ⟨x0.la,x0.lc,a1,c1,x0.S⟩) (xs:=cellsS x0.S) rfl (by kernel_rfl) (fun β ρ w' hM'=>ownS s0 x0 w' hx0.1 hx0.2.1 (hM'.at_ (show rowF (pt x0.sa x0.S.length) (cellsS x0.S)∈sgF x0 s0 from .tail _ (.head _))) (by have:=sgs_len hx0;omega)) (fun u c_u h_u f_u=>?_)
   have hx1:Sgo ⟨x0.la,x0.lc,u,c_u,x0.S⟩ s0:=⟨hx0.1,h_u,hx0.2.2.1,hx0.2.2.2⟩
   have hd0:=sgs_d hx0
   conv=>arg 5;whnf
   refine loop_vac (rowF (pt none 0) (cellsL [])::y0.fs (newT O)) (fun φ hφ=>by simp only [Tn.fs,Pn.fs,List.mem_append,List.mem_cons,List.not_mem_nil,or_false] at hφ;rcases hφ with rfl | (rfl | rfl | rfl) | rfl <;> rfl) ?_
   refine loop_rule Sxt.env_ok.keeps [] (schedQ_ok _ _ (by kernel_rfl)) (Ix.ok ⟨O,who,s0⟩) (fun i=>(⟨[some ([.v (.int .i64 O.k),.v (.int .i64 O.s),.v (.int .i64 O.v),.v (.int .i64 O.g),.v (.string O.d)],23),some ([.v (.int .i64 s0.C.sh),.v (.int .i64 s0.C.so),.v (.int .i64 s0.C.hd),.v (.int .i64 s0.C.per),.v (.int .i64 s0.C.bp),.v (.int .i64 s0.C.fd),.v (.int .i64 s0.C.wk),.v (.int .i64 s0.C.rm),.v (.slice x0.la s0.l.length x0.lc),.v (.int .i64 s0.t),.v (.int .i64 s0.m),.v (.slice x0.sa x0.S.length x0.sc)],31),some ([.v (.int .i64 i.t.O.k),.v (.int .i64 i.t.O.s),.v (.int .i64 i.t.O.v),.v (.int .i64 i.t.O.g),.v (.string i.t.O.d),.v (.int .i64 i.t.ph),.v (.int .i64 i.t.s),.v (.bool i.t.P.ch),.v (.int .i64 i.t.P.dl),.v (.int .i64 i.t.P.s),.v (.int .i64 i.t.P.b),.v (.slice i.y.x.a i.t.P.l.length i.y.x.c),.v (.slice i.y.x.ea i.t.P.ev.length i.y.x.ec),.v (.int .i64 i.t.P.r.e),.v (.int .i64 i.t.P.r.t.s),.v (.int .i64 i.t.P.r.t.n),.v (.int .i64 i.t.P.r.t.t),.v (.int .i64 i.t.P.r.t.c),.v (.int .i64 i.t.P.r.t.g),.v (.string i.t.P.r.t.d),.v (.slice i.y.x.ta i.t.P.r.l.length i.y.x.tc),.v (.int .i64 i.t.P.r.n),.v (.int .i64 i.t.r.e),.v (.int .i64 i.t.r.t.s),.v (.int .i64 i.t.r.t.n),.v (.int .i64 i.t.r.t.t),.v (.int .i64 i.t.r.t.c),.v (.int .i64 i.t.r.t.g),.v (.string i.t.r.t.d),.v (.slice i.y.a i.t.r.l.length i.y.c),.v (.int .i64 i.t.r.n),.v (.bool i.t.pt)],52),some ([.v (.int .i64 i.s.C.sh),.v (.int .i64 i.s.C.so),.v (.int .i64 i.s.C.hd),.v (.int .i64 i.s.C.per),.v (.int .i64 i.s.C.bp),.v (.int .i64 i.s.C.fd),.v (.int .i64 i.s.C.wk),.v (.int .i64 i.s.C.rm),.v (.slice i.x.la i.s.l.length i.x.lc),.v (.int .i64 i.s.t),.v (.int .i64 i.s.m),.v (.slice i.x.sa i.x.S.length i.x.sc)],58),some ([.v (.int .i64 i.r.e),.v (.int .i64 i.r.t.s),.v (.int .i64 i.r.t.n),.v (.int .i64 i.r.t.t),.v (.int .i64 i.r.t.c),.v (.int .i64 i.r.t.g),.v (.string i.r.t.d),.v (.slice i.ra i.r.l.length i.rc),.v (.int .i64 i.r.n)],42)],[],rowF (pt i.ra i.r.l.length) (cellsL i.r.l)::(i.y.fs i.t++(sgF i.x i.s++sgF x0 s0))⟩,[.any,.v (.int .i64 who),.any,.p 0 0,.any,.p 1 0,.any,.p 2 0,.p 3 0,.p 4 0,.v (.int .i64 i.k),.any,.any,.any,.any,.any,.any,.any,.any,.any,.any,.any,.any,.any,.any,.any,.any,.any,.any,.any,.any,.any,.any,.any,.any,.any,.any,.any,.any,.any,.any,.any,.any,.any,.any,.any,.any,.any,.any,.any,.any,.any,.any,.any,.any,.any,.any,.any,.any,.any,.any,.any,.any,.any,.any,.any,.any,.any,.any,.any,.any,.any,.any,.any,.any,.any,.any,.any,.any,.any,.any,.any,.any,.any,.any,.any,.any,.any,.any,.any,.any,.any,.any,.any,.any,.any,.any,.any,.any,.any,.any,.any,.any,.any,.any,.any])) (fun i=>8 - i.k) ⟨0,newT O,s0,y0,(⟨x0.la,x0.lc,u,c_u,x0.S⟩:Sn),R0,none,0⟩ ⟨Nat.zero_le _,.a0,y0_ok O,hx1,sl0,fun h=>by cases h⟩ ⟨by repeat' first | exact trivial | refine ⟨.inl rfl,?_⟩ | refine ⟨.inr rfl,?_⟩,⟨by repeat' first | exact trivial | refine ⟨.inl rfl,?_⟩ | refine ⟨.inr rfl,?_⟩,by repeat' first | exact trivial | refine ⟨.inl rfl,?_⟩ | refine ⟨.inr rfl,?_⟩,fun φ h=>entryF (F:=sgF x0 s0) (G:=sgF (⟨x0.la,x0.lc,u,c_u,x0.S⟩:Sn) s0) (show φ∈rowF (pt none 0) (cellsL [])::(y0.fs (newT O)++(sgF (⟨x0.la,x0.lc,u,c_u,x0.S⟩:Sn) s0++sgF x0 s0)) from h) (fun ψ hψ=>(List.mem_cons.1 hψ).elim (fun e=>e▸.tail _ (.head _)) fun hψ=>(List.mem_cons.1 hψ).elim (fun e=>e▸.head _) fun hψ=>.tail _ (.tail _ (.tail _ hψ))) (fun ψ hψ=>.tail _ hψ)⟩,rfl⟩ ?_
   rintro ⟨k,t,s,y,x,r,ra,rc⟩ ⟨hk,hP,hy,hx,hr,hpr⟩
   have hk:k≤8:=hk
   have hP:Pth ⟨O,who,s0⟩ t s:=hP
   have hy:y.ok t:=hy
   have hx:Sgo x s:=hx
   have hr:Sl ra r.l.length rc:=hr
   have hpr:t.pt=true→t.r=r:=hpr
   conv=>arg 5;whnf
   refine wp_br (fun h3=>?_) (fun h3=>?_)
   rotate_left
   ·skip
    conv=>arg 5;whnf
    refine meetc (f:=9) (v:=.bool true) rfl (by kernel_rfl) (fun β ρ w' hM'=>task.live w' (hM.later hM'.below)) ?_
    conv=>arg 5;whnf
    exact wp_back fun β ρ w' hM'=>⟨rfl,hM'.below⟩
   have hlt:k<8:=by have h4:=of_decide_eq_true (show decide ((k:Int)<8)=true from h3);omega
   have hms:=Pth.may (c:=⟨O,who,s0⟩) hmy hw1 hP
   have hts:=pth_sz (c:=⟨O,who,s0⟩) hd hmy hd0 hP
   have hN:=next (c:=⟨O,who,s0⟩) hmy hw1 hP
   have ST:=fun w hM hyf hxf=>task.step t y who s x w hM hy hyf hx hxf hms hts
   have hN:Nx ⟨O,who,s0⟩ t s (stepR t who s):=hN
   generalize stepR t who s=R at *
   obtain ⟨t',s',ev,p⟩:=R
   conv=>arg 5;whnf
   refine meetSt (f:=16) ⟨t',s',ev,p⟩ [] (by simp) rfl (by kernel_rfl) (fun β ρ w' hM'=>ST w' (hM.later hM'.below) (fun φ hφ g hg=>(hM'.fact φ (show φ∈(rowF (pt ra r.l.length) (cellsL r.l)::(y.fs t++(sgF x s++sgF x0 s0))) from .tail _ (List.mem_append_left _ hφ)) g hg).2) (fun φ hφ g hg=>(hM'.fact φ (show φ∈(rowF (pt ra r.l.length) (cellsL r.l)::(y.fs t++(sgF x s++sgF x0 s0))) from .tail _ (List.mem_append_right _ (List.mem_append_left _ hφ))) g hg).2)) (fun a ha hnew=>?_)
   obtain ⟨y',x',ea,ec⟩:=a
   obtain ⟨hy',hx',he'⟩:=ha
   have hy':y'.ok t':=hy'
   have hx':Sgo x' s':=hx'
   have he':Sl ea ev.length ec:=he'
   obtain ⟨nP,nPt,nH,nE,nR,nB,_,_,_⟩:=hN
   have nP:Pth ⟨O,who,s0⟩ t' s':=nP
   have nPt:t'.pt=(t.pt||p):=nPt
   have nH:p=true→t.pt=false:=nH
   have nE:ev≠[]→p=true:=nE
   have nR:t.pt=true→t'.r=t.r:=nR
   have nB:t'.pt=false→tk s' s0.l=s0:=nB
   have hyl:=(pth_sz (c:=⟨O,who,s0⟩) hd hmy hd0 nP).2.2.2.2.2.1
   have hxl':=sgs_len hx'
   have hS8:=(may_small (Pth.may (c:=⟨O,who,s0⟩) hmy hw1 nP)).2
   cases hp:p with
   | false=>
    have hev:ev=[]:=Classical.byContradiction fun h=>by have:=nE h;rw [hp] at this;cases this
    subst hp hev
    rw [Bool.or_false] at nPt
    cases hpt:t.pt with
    | true=>
     rw [hpt] at nPt nH nR hpr
     have hrr:r=t'.r:=((nR rfl).trans (hpr rfl)).symm
     subst hrr
     obtain ⟨tO,tp,ts,tP,tr,tb⟩:=t'
     have nPt:tb=true:=nPt
     subst nPt
     conv=>arg 5;whnf
     refine wp_prim (.bool false) (fun w=>by kernel_rfl) ?_
     conv=>arg 5;whnf
     refine meetc (f:=18) (v:=.bool true) rfl (by kernel_rfl) (fun β ρ w' hM'=>rsameR tr y'.a y'.c ra rc w' hy'.2 (hM'.at_ (show rowF (pt y'.a tr.l.length) (cellsL tr.l)∈((⟨y',x',ea,ec⟩:Sa).fs ⟨⟨tO,tp,ts,tP,tr,true⟩,s',[],false⟩++(rowF (pt ra tr.l.length) (cellsL tr.l)::(y.fs t++(sgF x s++sgF x0 s0)))) from List.mem_append_left _ (.tail _ (List.mem_append_left _ (List.mem_append_right _ (.head _)))))) hr (hM'.at_ (show rowF (pt ra tr.l.length) (cellsL tr.l)∈((⟨y',x',ea,ec⟩:Sa).fs ⟨⟨tO,tp,ts,tP,tr,true⟩,s',[],false⟩++(rowF (pt ra tr.l.length) (cellsL tr.l)::(y.fs t++(sgF x s++sgF x0 s0)))) from List.mem_append_right _ (.head _)))) ?_
     conv=>arg 5;whnf
     refine meet1F (f:=17) (n:=x'.S.length) (v:=fun a1 c1=>sgV s' ⟨x'.la,x'.lc,a1,c1,x'.S⟩) (xs:=cellsS x'.S) rfl (by kernel_rfl) (fun β ρ w' hM'=>toldS s' x' w' hx'.1 hx'.2.1 (hM'.at_ (show rowF (pt x'.sa x'.S.length) (cellsS x'.S)∈((⟨y',x',ea,ec⟩:Sa).fs ⟨⟨tO,tp,ts,tP,tr,true⟩,s',[],false⟩++(rowF (pt ra tr.l.length) (cellsL tr.l)::(y.fs t++(sgF x s++sgF x0 s0)))) from List.mem_append_left _ (.tail _ (List.mem_append_right _ (.tail _ (.head _)))))) (by omega)) (fun v c_v h_v f_v=>?_)
     conv=>arg 5;whnf
     refine wp_must ⟨by show -9223372036854775808≤(k:Int)+1;omega,by show (k:Int)+1≤9223372036854775807;omega⟩ ?_
     conv=>arg 5;whnf
     refine wp_end ⟨⟨k+1,⟨tO,tp,ts,tP,tr,true⟩,s',y',x',tr,ra,rc⟩,⟨hlt,nP,hy',hx',hr,fun _=>rfl⟩,⟨by repeat' first | exact trivial | refine ⟨.inl rfl,?_⟩ | refine ⟨.inr rfl,?_⟩,⟨by repeat' first | exact trivial | refine ⟨.inl rfl,?_⟩ | refine ⟨.inr rfl,?_⟩,by repeat' first | exact trivial | refine ⟨.inl rfl,?_⟩ | refine ⟨.inr rfl,?_⟩,fun φ h=>endF (A:=rowF (pt ea 0) (cellsE [])) (Y:=y'.fs ⟨tO,tp,ts,tP,tr,true⟩) (X:=sgF x' s') (X0:=sgF x0 s0) (H:=(rowF (pt ra tr.l.length) (cellsL tr.l)::(y.fs t++(sgF x s++sgF x0 s0)))) (show φ∈rowF (pt ra tr.l.length) (cellsL tr.l)::(y'.fs ⟨tO,tp,ts,tP,tr,true⟩++(sgF x' s'++sgF x0 s0)) from h) (show _∈(rowF (pt v x'.S.length) (cellsS x'.S)::((⟨y',x',ea,ec⟩:Sa).fs ⟨⟨tO,tp,ts,tP,tr,true⟩,s',[],false⟩++(rowF (pt ra tr.l.length) (cellsL tr.l)::(y.fs t++(sgF x s++sgF x0 s0))))) from .tail _ (List.mem_append_right _ (.head _))) (fun ψ hψ=>.tail _ hψ) (fun ψ hψ=>.tail _ (List.mem_append_right _ (List.mem_append_right _ hψ)))⟩,rfl⟩,by show 8 - (k+1)<8 - k;omega⟩
    | false=>
     rw [hpt] at nPt nH nR hpr
     obtain ⟨tO,tp,ts,tP,tr,tb⟩:=t'
     have nPt:tb=false:=nPt
     subst nPt
     have nB:=fun _:True=>nB rfl
     conv=>arg 5;whnf
     refine wp_prim (.bool false) (fun w=>by kernel_rfl) ?_
     conv=>arg 5;whnf
     refine meet1F (f:=17) (n:=x'.S.length) (v:=fun a1 c1=>sgV s' ⟨x'.la,x'.lc,a1,c1,x'.S⟩) (xs:=cellsS x'.S) rfl (by kernel_rfl) (fun β ρ w' hM'=>toldS s' x' w' hx'.1 hx'.2.1 (hM'.at_ (show rowF (pt x'.sa x'.S.length) (cellsS x'.S)∈((⟨y',x',ea,ec⟩:Sa).fs ⟨⟨tO,tp,ts,tP,tr,false⟩,s',[],false⟩++(rowF (pt ra r.l.length) (cellsL r.l)::(y.fs t++(sgF x s++sgF x0 s0)))) from List.mem_append_left _ (.tail _ (List.mem_append_right _ (.tail _ (.head _)))))) (by omega)) (fun v c_v h_v f_v=>?_)
     conv=>arg 5;whnf
     refine meetc (f:=21) (v:=.bool true) rfl (by kernel_rfl) (fun β ρ w' hM'=>rsameS2 (nB trivial) (⟨x0.la,x0.lc,v,c_v,x'.S⟩:Sn) x0 w' (sgs_of hM' (s:=tk s' s0.l) (x:=(⟨x0.la,x0.lc,v,c_v,x'.S⟩:Sn)) ⟨hx0.1,h_v,hx'.2.2.1,hx'.2.2.2⟩ fun φ hφ=>(show φ∈(rowF (pt v x'.S.length) (cellsS x'.S)::((⟨y',x',ea,ec⟩:Sa).fs ⟨⟨tO,tp,ts,tP,tr,false⟩,s',[],false⟩++(rowF (pt ra r.l.length) (cellsL r.l)::(y.fs t++(sgF x s++sgF x0 s0))))) from (List.mem_cons.1 hφ).elim (fun e=>e▸.tail _ (List.mem_append_right _ (.tail _ (List.mem_append_right _ (List.mem_append_right _ (.head _)))))) fun hφ=>(List.mem_cons.1 hφ).elim (fun e=>e▸.head _) fun hφ=>.tail _ (List.mem_append_left _ (.tail _ (List.mem_append_right _ (.tail _ (.tail _ hφ))))))) (sgs_of hM' hx0 fun φ hφ=>(show φ∈(rowF (pt v x'.S.length) (cellsS x'.S)::((⟨y',x',ea,ec⟩:Sa).fs ⟨⟨tO,tp,ts,tP,tr,false⟩,s',[],false⟩++(rowF (pt ra r.l.length) (cellsL r.l)::(y.fs t++(sgF x s++sgF x0 s0))))) from .tail _ (List.mem_append_right _ (.tail _ (List.mem_append_right _ (List.mem_append_right _ hφ))))))) ?_
     conv=>arg 5;whnf
     refine wp_must ⟨by show -9223372036854775808≤(k:Int)+1;omega,by show (k:Int)+1≤9223372036854775807;omega⟩ ?_
     conv=>arg 5;whnf
     refine wp_end ⟨⟨k+1,⟨tO,tp,ts,tP,tr,false⟩,s',y',x',r,ra,rc⟩,⟨hlt,nP,hy',hx',hr,fun h=>by cases h⟩,⟨by repeat' first | exact trivial | refine ⟨.inl rfl,?_⟩ | refine ⟨.inr rfl,?_⟩,⟨by repeat' first | exact trivial | refine ⟨.inl rfl,?_⟩ | refine ⟨.inr rfl,?_⟩,by repeat' first | exact trivial | refine ⟨.inl rfl,?_⟩ | refine ⟨.inr rfl,?_⟩,fun φ h=>endF (A:=rowF (pt ea 0) (cellsE [])) (Y:=y'.fs ⟨tO,tp,ts,tP,tr,false⟩) (X:=sgF x' s') (X0:=sgF x0 s0) (H:=(rowF (pt ra r.l.length) (cellsL r.l)::(y.fs t++(sgF x s++sgF x0 s0)))) (show φ∈rowF (pt ra r.l.length) (cellsL r.l)::(y'.fs ⟨tO,tp,ts,tP,tr,false⟩++(sgF x' s'++sgF x0 s0)) from h) (show _∈(rowF (pt v x'.S.length) (cellsS x'.S)::((⟨y',x',ea,ec⟩:Sa).fs ⟨⟨tO,tp,ts,tP,tr,false⟩,s',[],false⟩++(rowF (pt ra r.l.length) (cellsL r.l)::(y.fs t++(sgF x s++sgF x0 s0))))) from .tail _ (List.mem_append_right _ (.head _))) (fun ψ hψ=>.tail _ hψ) (fun ψ hψ=>.tail _ (List.mem_append_right _ (List.mem_append_right _ hψ)))⟩,rfl⟩,by show 8 - (k+1)<8 - k;omega⟩
   | true=>
    subst hp
    cases hpt:t.pt with
    | true=>have:=nH rfl;rw [hpt] at this;cases this
    | false=>
     rw [hpt] at nPt
     obtain ⟨tO,tp,ts,tP,tr,tb⟩:=t'
     have nPt:tb=true:=nPt
     subst nPt
     conv=>arg 5;whnf
     refine wp_g1 (fun _=>?_) (fun _=>?_)
     all_goals
      conv=>arg 5;whnf
      refine wp_prim (.bool false) (fun w=>by kernel_rfl) ?_
      conv=>arg 5;whnf
      refine meetc (f:=18) (v:=.bool true) rfl (by kernel_rfl) (fun β ρ w' hM'=>rsameR tr y'.a y'.c y'.a y'.c w' hy'.2 (hM'.at_ (show rowF (pt y'.a tr.l.length) (cellsL tr.l)∈((⟨y',x',ea,ec⟩:Sa).fs ⟨⟨tO,tp,ts,tP,tr,true⟩,s',ev,true⟩++(rowF (pt ra r.l.length) (cellsL r.l)::(y.fs t++(sgF x s++sgF x0 s0)))) from List.mem_append_left _ (.tail _ (List.mem_append_left _ (List.mem_append_right _ (.head _)))))) hy'.2 (hM'.at_ (show rowF (pt y'.a tr.l.length) (cellsL tr.l)∈((⟨y',x',ea,ec⟩:Sa).fs ⟨⟨tO,tp,ts,tP,tr,true⟩,s',ev,true⟩++(rowF (pt ra r.l.length) (cellsL r.l)::(y.fs t++(sgF x s++sgF x0 s0)))) from List.mem_append_left _ (.tail _ (List.mem_append_left _ (List.mem_append_right _ (.head _))))))) ?_
      conv=>arg 5;whnf
      refine meet1F (f:=17) (n:=x'.S.length) (v:=fun a1 c1=>sgV s' ⟨x'.la,x'.lc,a1,c1,x'.S⟩) (xs:=cellsS x'.S) rfl (by kernel_rfl) (fun β ρ w' hM'=>toldS s' x' w' hx'.1 hx'.2.1 (hM'.at_ (show rowF (pt x'.sa x'.S.length) (cellsS x'.S)∈((⟨y',x',ea,ec⟩:Sa).fs ⟨⟨tO,tp,ts,tP,tr,true⟩,s',ev,true⟩++(rowF (pt ra r.l.length) (cellsL r.l)::(y.fs t++(sgF x s++sgF x0 s0)))) from List.mem_append_left _ (.tail _ (List.mem_append_right _ (.tail _ (.head _)))))) (by omega)) (fun v c_v h_v f_v=>?_)
      conv=>arg 5;whnf
      refine wp_must ⟨by show -9223372036854775808≤(k:Int)+1;omega,by show (k:Int)+1≤9223372036854775807;omega⟩ ?_
      conv=>arg 5;whnf
      refine wp_end ⟨⟨k+1,⟨tO,tp,ts,tP,tr,true⟩,s',y',x',tr,y'.a,y'.c⟩,⟨hlt,nP,hy',hx',hy'.2,fun _=>rfl⟩,⟨by repeat' first | exact trivial | refine ⟨.inl rfl,?_⟩ | refine ⟨.inr rfl,?_⟩,⟨by repeat' first | exact trivial | refine ⟨.inl rfl,?_⟩ | refine ⟨.inr rfl,?_⟩,by repeat' first | exact trivial | refine ⟨.inl rfl,?_⟩ | refine ⟨.inr rfl,?_⟩,fun φ h=>endF (A:=rowF (pt ea ev.length) (cellsE ev)) (Y:=y'.fs ⟨tO,tp,ts,tP,tr,true⟩) (X:=sgF x' s') (X0:=sgF x0 s0) (H:=(rowF (pt ra r.l.length) (cellsL r.l)::(y.fs t++(sgF x s++sgF x0 s0)))) (show φ∈rowF (pt y'.a tr.l.length) (cellsL tr.l)::(y'.fs ⟨tO,tp,ts,tP,tr,true⟩++(sgF x' s'++sgF x0 s0)) from h) (show _∈(rowF (pt v x'.S.length) (cellsS x'.S)::((⟨y',x',ea,ec⟩:Sa).fs ⟨⟨tO,tp,ts,tP,tr,true⟩,s',ev,true⟩++(rowF (pt ra r.l.length) (cellsL r.l)::(y.fs t++(sgF x s++sgF x0 s0))))) from .tail _ (List.mem_append_left _ (.tail _ (List.mem_append_left _ (List.mem_append_right _ (.head _)))))) (fun ψ hψ=>.tail _ hψ) (fun ψ hψ=>.tail _ (List.mem_append_right _ (List.mem_append_right _ hψ)))⟩,rfl⟩,by show 8 - (k+1)<8 - k;omega⟩
end Go.Proofs.YtmoopmcdolonjaaGreatDoor.taskPoint
