/- The walk of hopperlaw16.TaskKeeps. -/
import Derived.Test.YtmoopmcdolonjaaGreatDoorKTkW
import Derived.Test.YtmoopmcdolonjaaGreatDoorKTkRR
import Derived.Test.YtmoopmcdolonjaaGreatDoorKTkKA
set_option linter.all false
set_option maxHeartbeats 4000000
set_option maxRecDepth 100000
namespace Go.Proofs.YtmoopmcdolonjaaGreatDoor.taskKeeps
open Go.RowKit Sx txn queue greedy shard pool Go.Proofs.YtmoopmcdolonjaaGreatDoor.look lock Go.Proofs.YtmoopmcdolonjaaGreatDoor.task
structure Iy where
 k:Nat
 t:Tk
 s:Sg
 y:Tn
 x:Sn
def Iy.ok (c:Cx) (n:Int) (i:Iy):Prop:=(i.k:Int)≤max n 0∧Pth c i.t i.s∧i.y.ok i.t∧Sgo i.x i.s
theorem walk (O:Oq) (who n:Int) (s0:Sg) (x0:Sn) (w:World) (hM:Most w) (hO:O.fits) (hN2:Fits who∧Fits n) (hI:SgIn w x0 s0∧s0.fits) :
  Calls Tryz.prog 4 (List.toArray [O.val,.agg #[.int .i64 who,.int .i64 n],sgV s0 x0]) w fun e w'=>e=.returned (.bool true)∧Below w.heap.size w w':=by
 obtain ⟨hI,_⟩:=hI
 have SM:=fun w' (h:SgIn w' x0 s0)=>small s0 x0 w' h
 have hsm:=fun (hb:smallB x0 s0=true)=>hI.small hb
 generalize smallB x0 s0=sb at *
 refine calls_of_exec Sxv.env_ok.keeps Tryz.func4 rfl [(14,(line [0,1,2,3,4,5,6,7,8,9,10,11,12,13,14,15,16,17,18,19,20,21,22,23,24,25,26,27,28,29,31,30,32,33,34,35,36,37],[])),(21,(line [0,1,2,3,4,5,6,7,8,9,10,11,12,13,14,15,16,17,18],[])),(23,(line [0,1,2,3,4,5,6,7,8,9,10,11,12,13,14,15,16,17,18,19,20],[]))] (schedQ_ok _ _ (by kernel_rfl)) (sgF x0 s0) hI.facts ?_
 conv=>arg 5;whnf
 refine wp_must ⟨by decide,by decide⟩ ?_
 conv=>arg 5;whnf
 refine wp_must ⟨by decide,by decide⟩ ?_
 conv=>arg 5;whnf
 refine meetc (f:=7) (v:=.bool sb) rfl (by kernel_rfl) (fun β ρ w' hM'=>SM w' (hI.mem hM' fun φ hφ=>hφ)) ?_
 cases sb with
 | false=>
  conv=>arg 5;whnf
  refine meetc (f:=9) (v:=.bool true) rfl (by kernel_rfl) (fun β ρ w' hM'=>task.live w' (hM.later hM'.below)) ?_
  conv=>arg 5;whnf
  exact wp_back fun β ρ w' hM'=>⟨rfl,hM'.below⟩
 | true=>
  obtain ⟨hx0,hl10,hS10,hq20,hz20⟩:=hsm rfl
  conv=>arg 5;whnf
  refine wp_g0 (fun h1=>?_) (fun h1=>?_)
  rotate_left
  ·skip
   conv=>arg 5;whnf
   refine meetc (f:=9) (v:=.bool true) rfl (by kernel_rfl) (fun β ρ w' hM'=>task.live w' (hM.later hM'.below)) ?_
   conv=>arg 5;whnf
   exact wp_back fun β ρ w' hM'=>⟨rfl,hM'.below⟩
  have hd:O.d.size≤1000000:=by have h2:¬ (500:Int)<(O.d.size:Int):=of_decide_eq_false h1;omega
  have MY:=fun w hM hS=>rmay s0 x0 w hM hS (fun q hq=>Nat.le_trans (hq20 q hq) (by decide))
  cases hmy:mayS s0 with
  | false=>
   rw [hmy] at MY
   conv=>arg 5;whnf
   refine meetc (f:=8) (v:=.bool false) rfl (by kernel_rfl) (fun β ρ w' hM'=>MY w' (hM.later hM'.below) (sgs_of hM' hx0 fun φ hφ=>hφ)) ?_
   conv=>arg 5;whnf
   refine meetc (f:=9) (v:=.bool true) rfl (by kernel_rfl) (fun β ρ w' hM'=>task.live w' (hM.later hM'.below)) ?_
   conv=>arg 5;whnf
   exact wp_back fun β ρ w' hM'=>⟨rfl,hM'.below⟩
  | true=>
   rw [hmy] at MY
   conv=>arg 5;whnf
   refine meetc (f:=8) (v:=.bool true) rfl (by kernel_rfl) (fun β ρ w' hM'=>MY w' (hM.later hM'.below) (sgs_of hM' hx0 fun φ hφ=>hφ)) ?_
   conv=>arg 5;whnf
   refine wp_g0 (fun h2=>?_) (fun h2=>?_)
   rotate_left
   ·skip
    conv=>arg 5;whnf
    refine meetc (f:=9) (v:=.bool true) rfl (by kernel_rfl) (fun β ρ w' hM'=>task.live w' (hM.later hM'.below)) ?_
    conv=>arg 5;whnf
    exact wp_back fun β ρ w' hM'=>⟨rfl,hM'.below⟩
   have hw1:1≤who:=by have h3:¬ who<1:=of_decide_eq_false h2;omega
   conv=>arg 5;whnf
   refine wp_g0 (fun h2=>?_) (fun h2=>?_)
   rotate_left
   ·skip
    conv=>arg 5;whnf
    refine meetc (f:=9) (v:=.bool true) rfl (by kernel_rfl) (fun β ρ w' hM'=>task.live w' (hM.later hM'.below)) ?_
    conv=>arg 5;whnf
    exact wp_back fun β ρ w' hM'=>⟨rfl,hM'.below⟩
   have hn0:0≤n:=by have h3:¬ n<0:=of_decide_eq_false h2;omega
   conv=>arg 5;whnf
   refine wp_br (fun h2=>?_) (fun h2=>?_)
   ·skip
    conv=>arg 5;whnf
    refine meetc (f:=9) (v:=.bool true) rfl (by kernel_rfl) (fun β ρ w' hM'=>task.live w' (hM.later hM'.below)) ?_
    conv=>arg 5;whnf
    exact wp_back fun β ρ w' hM'=>⟨rfl,hM'.below⟩
   have hn8:n≤8:=by have h3:¬ (8:Int)<n:=of_decide_eq_false h2;omega
   conv=>arg 5;whnf
   refine meetc (f:=13) (v:=tkV (newT O) y0) rfl (by kernel_rfl) (fun β ρ w' hM'=>new_any w') ?_
   conv=>arg 5;whnf
   refine meet1F (f:=14) (n:=x0.S.length) (v:=fun a1 c1=>sgV s0 ⟨x0.la,x0.lc,a1,c1,x0.S⟩) (xs:=cellsS x0.S) rfl (by kernel_rfl) (fun β ρ w' hM'=>ownS s0 x0 w' hx0.1 hx0.2.1 (hM'.at_ (show rowF (pt x0.sa x0.S.length) (cellsS x0.S)∈sgF x0 s0 from .tail _ (.head _))) (by have:=sgs_len hx0;omega)) (fun u c_u h_u f_u=>?_)
   have hx1:Sgo (⟨x0.la,x0.lc,u,c_u,x0.S⟩:Sn) s0:=⟨hx0.1,h_u,hx0.2.2.1,hx0.2.2.2⟩
   have hd0:=sgs_d hx0
   conv=>arg 5;whnf
   refine loop_vac (rowF (pt none 0) (cellsL [])::y0.fs (newT O)) (fun φ hφ=>by simp only [Tn.fs,Pn.fs,List.mem_append,List.mem_cons,List.not_mem_nil,or_false] at hφ;rcases hφ with rfl | (rfl | rfl | rfl) | rfl <;> rfl) ?_
   refine loop_rule Sxv.env_ok.keeps [(14,(line [0,1,2,3,4,5,6,7,8,9,10,11,12,13,14,15,16,17,18,19,20,21,22,23,24,25,26,27,28,29,31,30,32,33,34,35,36,37],[])),(21,(line [0,1,2,3,4,5,6,7,8,9,10,11,12,13,14,15,16,17,18],[])),(23,(line [0,1,2,3,4,5,6,7,8,9,10,11,12,13,14,15,16,17,18,19,20],[]))] (schedQ_ok _ _ (by kernel_rfl)) (Iy.ok ⟨O,who,s0⟩ n) (fun i=>(⟨[some ([.v (.int .i64 O.k),.v (.int .i64 O.s),.v (.int .i64 O.v),.v (.int .i64 O.g),.v (.string O.d)],23),some ([.v (.int .i64 who),.v (.int .i64 n)],69),some ([.v (.int .i64 s0.C.sh),.v (.int .i64 s0.C.so),.v (.int .i64 s0.C.hd),.v (.int .i64 s0.C.per),.v (.int .i64 s0.C.bp),.v (.int .i64 s0.C.fd),.v (.int .i64 s0.C.wk),.v (.int .i64 s0.C.rm),.v (.slice x0.la s0.l.length x0.lc),.v (.int .i64 s0.t),.v (.int .i64 s0.m),.v (.slice x0.sa x0.S.length x0.sc)],31),some ([.v (.int .i64 i.t.O.k),.v (.int .i64 i.t.O.s),.v (.int .i64 i.t.O.v),.v (.int .i64 i.t.O.g),.v (.string i.t.O.d),.v (.int .i64 i.t.ph),.v (.int .i64 i.t.s),.v (.bool i.t.P.ch),.v (.int .i64 i.t.P.dl),.v (.int .i64 i.t.P.s),.v (.int .i64 i.t.P.b),.v (.slice i.y.x.a i.t.P.l.length i.y.x.c),.v (.slice i.y.x.ea i.t.P.ev.length i.y.x.ec),.v (.int .i64 i.t.P.r.e),.v (.int .i64 i.t.P.r.t.s),.v (.int .i64 i.t.P.r.t.n),.v (.int .i64 i.t.P.r.t.t),.v (.int .i64 i.t.P.r.t.c),.v (.int .i64 i.t.P.r.t.g),.v (.string i.t.P.r.t.d),.v (.slice i.y.x.ta i.t.P.r.l.length i.y.x.tc),.v (.int .i64 i.t.P.r.n),.v (.int .i64 i.t.r.e),.v (.int .i64 i.t.r.t.s),.v (.int .i64 i.t.r.t.n),.v (.int .i64 i.t.r.t.t),.v (.int .i64 i.t.r.t.c),.v (.int .i64 i.t.r.t.g),.v (.string i.t.r.t.d),.v (.slice i.y.a i.t.r.l.length i.y.c),.v (.int .i64 i.t.r.n),.v (.bool i.t.pt)],52),some ([.v (.int .i64 i.s.C.sh),.v (.int .i64 i.s.C.so),.v (.int .i64 i.s.C.hd),.v (.int .i64 i.s.C.per),.v (.int .i64 i.s.C.bp),.v (.int .i64 i.s.C.fd),.v (.int .i64 i.s.C.wk),.v (.int .i64 i.s.C.rm),.v (.slice i.x.la i.s.l.length i.x.lc),.v (.int .i64 i.s.t),.v (.int .i64 i.s.m),.v (.slice i.x.sa i.x.S.length i.x.sc)],58)],[],rowF (pt none 0) (cellsL [])::(i.y.fs i.t++(sgF i.x i.s++sgF x0 s0))⟩,[.any,.any,.any,.p 0 0,.p 1 0,.p 2 0,.any,.v (.int .i64 who),.v (.int .i64 n),.p 3 0,.p 4 0,.v (.int .i64 i.k),.any,.any,.any,.any,.any,.any,.any,.any,.any,.any,.any,.any,.any,.any,.any,.any,.any,.any,.any,.any,.any,.any,.any,.any,.any,.any,.any,.any,.any,.any,.any,.any,.any,.any,.any,.any,.any,.any,.any,.any,.any,.any,.any,.any,.any,.any,.any,.any,.any,.any,.any,.any,.any,.any,.any,.any,.any,.any,.any,.any,.any,.any,.any,.any,.any,.any,.any,.any,.any,.any,.any,.any,.any,.any,.any,.any,.any,.any,.any,.any,.any,.any,.any,.any,.any,.any,.any,.any,.any,.any,.any,.any,.any,.any,.any,.any,.any,.any,.any,.any,.any,.any,.any,.any,.any,.any,.any,.any,.any,.any,.any,.any,.any,.any,.any,.any,.any,.any,.any,.any,.any,.any,.any,.any,.any,.any,.any,.any,.any,.any,.any,.any,.any,.any,.any,.any,.any,.any,.any,.any,.any,.any,.any,.any,.any,.any,.any,.any,.any,.any,.any,.any,.any,.any,.any,.any,.any,.any,.any,.any,.any,.any,.any,.any,.any,.any,.any,.any,.any,.any,.any,.any,.any,.any,.any,.any,.any,.any,.any,.any,.any,.any,.any,.any,.any])) (fun i=>n.toNat - i.k) ⟨0,newT O,s0,y0,(⟨x0.la,x0.lc,u,c_u,x0.S⟩:Sn)⟩ ⟨by show (0:Int)≤max n 0;omega,.a0,y0_ok O,hx1⟩ ⟨by repeat' first | exact trivial | refine ⟨.inl rfl,?_⟩ | refine ⟨.inr rfl,?_⟩,⟨by repeat' first | exact trivial | refine ⟨.inl rfl,?_⟩ | refine ⟨.inr rfl,?_⟩,by repeat' first | exact trivial | refine ⟨.inl rfl,?_⟩ | refine ⟨.inr rfl,?_⟩,fun φ h=>entryF (F:=sgF x0 s0) (G:=sgF (⟨x0.la,x0.lc,u,c_u,x0.S⟩:Sn) s0) (show φ∈rowF (pt none 0) (cellsL [])::(y0.fs (newT O)++(sgF (⟨x0.la,x0.lc,u,c_u,x0.S⟩:Sn) s0++sgF x0 s0)) from h) (fun ψ hψ=>(List.mem_cons.1 hψ).elim (fun e=>e▸.tail _ (.head _)) fun hψ=>(List.mem_cons.1 hψ).elim (fun e=>e▸.head _) fun hψ=>.tail _ (.tail _ (.tail _ hψ))) (fun ψ hψ=>.tail _ hψ)⟩,rfl⟩ ?_
   rintro ⟨k,t,s,y,x⟩ ⟨hk,hP,hy,hx⟩
   have hk:(k:Int)≤max n 0:=hk
   have hP:Pth ⟨O,who,s0⟩ t s:=hP
   have hy:y.ok t:=hy
   have hx:Sgo x s:=hx
   conv=>arg 5;whnf
   refine wp_br (fun h3=>?_) (fun h3=>?_)
   rotate_left
   ·skip
    conv=>arg 5;whnf
    refine meetc (f:=9) (v:=.bool true) rfl (by kernel_rfl) (fun β ρ w' hM'=>task.live w' (hM.later hM'.below)) ?_
    conv=>arg 5;whnf
    exact wp_back fun β ρ w' hM'=>⟨rfl,hM'.below⟩
   have hlt:(k:Int)<n:=of_decide_eq_true h3
   have hms:=Pth.may (c:=⟨O,who,s0⟩) hmy hw1 hP
   have hts:=pth_sz (c:=⟨O,who,s0⟩) hd hmy hd0 hP
   have hN:=next (c:=⟨O,who,s0⟩) hmy hw1 hP
   have ST:=fun w hM hyf hxf=>task.step t y who s x w hM hy hyf hx hxf hms hts
   have AB:=fun w hM hxf=>able_at (t:=t) (who:=who) (s:=s) rfl hms y x w hM hx hxf
   have hN:Nx ⟨O,who,s0⟩ t s (stepR t who s):=hN
   have hnot:ableV t who s=false→stepR t who s=⟨t,s,[],false⟩:=hN.not
   generalize stepR t who s=R at *
   generalize ableV t who s=ab at *
   conv=>arg 5;whnf
   refine meetc (f:=15) (v:=.bool ab) rfl (by kernel_rfl) (fun β ρ w' hM'=>AB w' (hM.later hM'.below) (fun φ hφ g hg=>(hM'.fact φ (show φ∈(rowF (pt none 0) (cellsL [])::(y.fs t++(sgF x s++sgF x0 s0))) from .tail _ (List.mem_append_right _ (List.mem_append_left _ hφ))) g hg).2)) ?_
   conv=>arg 5;whnf
   refine meetSt (f:=16) R [] (by simp) rfl (by kernel_rfl) (fun β ρ w' hM'=>ST w' (hM.later hM'.below) (fun φ hφ g hg=>(hM'.fact φ (show φ∈(rowF (pt none 0) (cellsL [])::(y.fs t++(sgF x s++sgF x0 s0))) from .tail _ (List.mem_append_left _ hφ)) g hg).2) (fun φ hφ g hg=>(hM'.fact φ (show φ∈(rowF (pt none 0) (cellsL [])::(y.fs t++(sgF x s++sgF x0 s0))) from .tail _ (List.mem_append_right _ (List.mem_append_left _ hφ))) g hg).2)) (fun a ha hnew=>?_)
   obtain ⟨y',x',ea,ec⟩:=a
   obtain ⟨t',s',ev,p⟩:=R
   obtain ⟨hy',hx',he'⟩:=ha
   have hy':y'.ok t':=hy'
   have hx':Sgo x' s':=hx'
   have he':Sl ea ev.length ec:=he'
   have nP:Pth ⟨O,who,s0⟩ t' s':=hN.pth
   have hms':=Pth.may (c:=⟨O,who,s0⟩) hmy hw1 nP
   have hS8:=(may_small hms).2
   have hS8':=(may_small hms').2
   have hxl:=sgs_len hx
   have hxl':=sgs_len hx'
   have nL:s'.l=s.l∨(s'.l=s.l.set (Cx.κ ⟨O,who,s0⟩).toNat who∧s.l[(Cx.κ ⟨O,who,s0⟩).toNat]?=some 0)∨(s'.l=s.l.set (Cx.κ ⟨O,who,s0⟩).toNat 0∧s.l[(Cx.κ ⟨O,who,s0⟩).toNat]?=some who):=hN.lock
   have nS:s'.S=s.S∨(s.l[(Cx.κ ⟨O,who,s0⟩).toNat]?=some who∧∃q,s'.S=s.S.set (Cx.κ ⟨O,who,s0⟩).toNat q):=hN.shard
   have nLl:s'.l.length=s.l.length:=by rcases nL with h | ⟨h,_⟩ | ⟨h,_⟩ <;> rw [h] <;> simp
   conv=>arg 5;whnf
   refine meet1F (f:=17) (n:=x.S.length) (v:=fun a1 c1=>sgV s ⟨x.la,x.lc,a1,c1,x.S⟩) (xs:=cellsS x.S) rfl (by kernel_rfl) (fun β ρ w' hM'=>toldS s x w' hx.1 hx.2.1 (hM'.at_ (show rowF (pt x.sa x.S.length) (cellsS x.S)∈((⟨y',x',ea,ec⟩:Sa).fs ⟨t',s',ev,p⟩++(rowF (pt none 0) (cellsL [])::(y.fs t++(sgF x s++sgF x0 s0)))) from List.mem_append_right _ (.tail _ (List.mem_append_right _ (List.mem_append_left _ (.tail _ (.head _))))))) (by omega)) (fun g1 c_g1 h_g1 f_g1=>?_)
   conv=>arg 5;whnf
   refine meet1F (f:=17) (n:=x'.S.length) (v:=fun a1 c1=>sgV s' ⟨x'.la,x'.lc,a1,c1,x'.S⟩) (xs:=cellsS x'.S) rfl (by kernel_rfl) (fun β ρ w' hM'=>toldS s' x' w' hx'.1 hx'.2.1 (hM'.at_ (show rowF (pt x'.sa x'.S.length) (cellsS x'.S)∈(rowF (pt g1 x.S.length) (cellsS x.S)::((⟨y',x',ea,ec⟩:Sa).fs ⟨t',s',ev,p⟩++(rowF (pt none 0) (cellsL [])::(y.fs t++(sgF x s++sgF x0 s0))))) from .tail _ (List.mem_append_left _ (.tail _ (List.mem_append_right _ (.tail _ (.head _))))))) (by omega)) (fun g2 c_g2 h_g2 f_g2=>?_)
   have hx8:Sgo (⟨x.la,x.lc,g1,c_g1,x.S⟩:Sn) s:=⟨hx.1,h_g1,hx.2.2.1,hx.2.2.2⟩
   have hx9:Sgo (⟨x'.la,x'.lc,g2,c_g2,x'.S⟩:Sn) s':=⟨hx'.1,h_g2,hx'.2.2.1,hx'.2.2.2⟩
   conv=>arg 5;whnf
   refine meetc (f:=8) (v:=.bool true) rfl (by kernel_rfl) (fun β ρ w' hM'=>hms'▸rmay s' (⟨x'.la,x'.lc,g2,c_g2,x'.S⟩:Sn) w' (hM.later hM'.below) (sgs_of hM' hx9 fun φ hφ=>(show φ∈(rowF (pt g2 x'.S.length) (cellsS x'.S)::(rowF (pt g1 x.S.length) (cellsS x.S)::((⟨y',x',ea,ec⟩:Sa).fs ⟨t',s',ev,p⟩++(rowF (pt none 0) (cellsL [])::(y.fs t++(sgF x s++sgF x0 s0)))))) from (List.mem_cons.1 hφ).elim (fun e=>e▸.tail _ (.tail _ (List.mem_append_left _ (.tail _ (List.mem_append_right _ (.head _)))))) fun hφ=>(List.mem_cons.1 hφ).elim (fun e=>e▸.head _) fun hφ=>.tail _ (.tail _ (List.mem_append_left _ (.tail _ (List.mem_append_right _ (.tail _ (.tail _ hφ)))))))) (fun q hq=>Nat.le_trans (sgs_n hx9 (n:=256) (fun q hq=>by obtain ⟨j,hj⟩:=List.mem_iff_getElem?.1 hq;exact may_len hms' hj) q hq) (by decide))) ?_
   conv=>arg 5;whnf
   refine wp_g0 (fun _=>?_) (fun h=>absurd h (by show ¬ (!((s'.l.length:Int)==(s.l.length:Int)))=true;rw [nLl];simp))
   conv=>arg 5;whnf
   refine wp_g1 (fun h5=>?_) (fun _=>?_)
   have hab:ab=false:=by simpa using h5
   obtain ⟨et,es,ee,ep⟩:t'=t∧s'=s∧ev=[]∧p=false:=by have h:=hnot hab;injection h with a b c d;exact ⟨a,b,c,d⟩
   conv=>arg 5;whnf
   refine wp_g0 (fun _=>?_) (fun h=>absurd h (by rw [ep];simp))
   conv=>arg 5;whnf
   refine wp_g0 (fun _=>?_) (fun h=>absurd h (by rw [ee];simp))
   conv=>arg 5;whnf
   refine meetc (f:=21) (v:=.bool true) rfl (by kernel_rfl) (fun β ρ w' hM'=>rsameS2 es.symm (⟨x.la,x.lc,g1,c_g1,x.S⟩:Sn) (⟨x'.la,x'.lc,g2,c_g2,x'.S⟩:Sn) w' (sgs_of hM' hx8 fun φ hφ=>(show φ∈(rowF (pt g2 x'.S.length) (cellsS x'.S)::(rowF (pt g1 x.S.length) (cellsS x.S)::((⟨y',x',ea,ec⟩:Sa).fs ⟨t',s',ev,p⟩++(rowF (pt none 0) (cellsL [])::(y.fs t++(sgF x s++sgF x0 s0)))))) from (List.mem_cons.1 hφ).elim (fun e=>e▸.tail _ (.tail _ (List.mem_append_right _ (.tail _ (List.mem_append_right _ (List.mem_append_left _ (.head _))))))) fun hφ=>(List.mem_cons.1 hφ).elim (fun e=>e▸.tail _ (.head _)) fun hφ=>.tail _ (.tail _ (List.mem_append_right _ (.tail _ (List.mem_append_right _ (List.mem_append_left _ (.tail _ (.tail _ hφ))))))))) (sgs_of hM' hx9 fun φ hφ=>(show φ∈(rowF (pt g2 x'.S.length) (cellsS x'.S)::(rowF (pt g1 x.S.length) (cellsS x.S)::((⟨y',x',ea,ec⟩:Sa).fs ⟨t',s',ev,p⟩++(rowF (pt none 0) (cellsL [])::(y.fs t++(sgF x s++sgF x0 s0)))))) from (List.mem_cons.1 hφ).elim (fun e=>e▸.tail _ (.tail _ (List.mem_append_left _ (.tail _ (List.mem_append_right _ (.head _)))))) fun hφ=>(List.mem_cons.1 hφ).elim (fun e=>e▸.head _) fun hφ=>.tail _ (.tail _ (List.mem_append_left _ (.tail _ (List.mem_append_right _ (.tail _ (.tail _ hφ))))))))) ?_
   conv=>arg 5;whnf
   refine meetc (f:=23) (v:=tkV t y) rfl (by kernel_rfl) (fun β ρ w' hM'=>toldT t y w') ?_
   conv=>arg 5;whnf
   refine meetc (f:=23) (v:=tkV t' y') rfl (by kernel_rfl) (fun β ρ w' hM'=>toldT t' y' w') ?_
   conv=>arg 5;whnf
   refine meetc (f:=22) (v:=.bool true) rfl (by kernel_rfl) (fun β ρ w' hM'=>rsameT2 et.symm y y' w' hy hy' (fun φ hφ g hg=>(hM'.fact φ (show φ∈(rowF (pt g2 x'.S.length) (cellsS x'.S)::(rowF (pt g1 x.S.length) (cellsS x.S)::((⟨y',x',ea,ec⟩:Sa).fs ⟨t',s',ev,p⟩++(rowF (pt none 0) (cellsL [])::(y.fs t++(sgF x s++sgF x0 s0)))))) from .tail _ (.tail _ (List.mem_append_right _ (.tail _ (List.mem_append_left _ hφ))))) g hg).2) (fun φ hφ g hg=>(hM'.fact φ (show φ∈(rowF (pt g2 x'.S.length) (cellsS x'.S)::(rowF (pt g1 x.S.length) (cellsS x.S)::((⟨y',x',ea,ec⟩:Sa).fs ⟨t',s',ev,p⟩++(rowF (pt none 0) (cellsL [])::(y.fs t++(sgF x s++sgF x0 s0)))))) from .tail _ (.tail _ (List.mem_append_left _ (.tail _ (List.mem_append_left _ hφ))))) g hg).2)) ?_
   all_goals
    have eLs:=(may_iff.1 hms).2.1
    have eSs:=(may_iff.1 hms).2.2.1
    have eLs':=(may_iff.1 hms').2.1
    have eSs':=(may_iff.1 hms').2.2.1
    have eC:s'.C=s.C:=(Pth.CC nP).trans (Pth.CC hP).symm
    rw [eC] at eLs' eSs'
    conv=>arg 5;whnf
    refine loop_rule Sxv.env_ok.keeps [(14,(line [0,1,2,3,4,5,6,7,8,9,10,11,12,13,14,15,16,17,18,19,20,21,22,23,24,25,26,27,28,29,31,30,32,33,34,35,36,37],[])),(21,(line [0,1,2,3,4,5,6,7,8,9,10,11,12,13,14,15,16,17,18],[])),(23,(line [0,1,2,3,4,5,6,7,8,9,10,11,12,13,14,15,16,17,18,19,20],[]))] (schedQ_ok _ _ (by kernel_rfl)) (fun k2:Nat=>k2≤s'.l.length) (fun k2=>(⟨[some ([.v (.int .i64 O.k),.v (.int .i64 O.s),.v (.int .i64 O.v),.v (.int .i64 O.g),.v (.string O.d)],23),some ([.v (.int .i64 who),.v (.int .i64 n)],69),some ([.v (.int .i64 s0.C.sh),.v (.int .i64 s0.C.so),.v (.int .i64 s0.C.hd),.v (.int .i64 s0.C.per),.v (.int .i64 s0.C.bp),.v (.int .i64 s0.C.fd),.v (.int .i64 s0.C.wk),.v (.int .i64 s0.C.rm),.v (.slice x0.la s0.l.length x0.lc),.v (.int .i64 s0.t),.v (.int .i64 s0.m),.v (.slice x0.sa x0.S.length x0.sc)],31),some ([.v (.int .i64 t.O.k),.v (.int .i64 t.O.s),.v (.int .i64 t.O.v),.v (.int .i64 t.O.g),.v (.string t.O.d),.v (.int .i64 t.ph),.v (.int .i64 t.s),.v (.bool t.P.ch),.v (.int .i64 t.P.dl),.v (.int .i64 t.P.s),.v (.int .i64 t.P.b),.v (.slice y.x.a t.P.l.length y.x.c),.v (.slice y.x.ea t.P.ev.length y.x.ec),.v (.int .i64 t.P.r.e),.v (.int .i64 t.P.r.t.s),.v (.int .i64 t.P.r.t.n),.v (.int .i64 t.P.r.t.t),.v (.int .i64 t.P.r.t.c),.v (.int .i64 t.P.r.t.g),.v (.string t.P.r.t.d),.v (.slice y.x.ta t.P.r.l.length y.x.tc),.v (.int .i64 t.P.r.n),.v (.int .i64 t.r.e),.v (.int .i64 t.r.t.s),.v (.int .i64 t.r.t.n),.v (.int .i64 t.r.t.t),.v (.int .i64 t.r.t.c),.v (.int .i64 t.r.t.g),.v (.string t.r.t.d),.v (.slice y.a t.r.l.length y.c),.v (.int .i64 t.r.n),.v (.bool t.pt)],52),some ([.v (.int .i64 s.C.sh),.v (.int .i64 s.C.so),.v (.int .i64 s.C.hd),.v (.int .i64 s.C.per),.v (.int .i64 s.C.bp),.v (.int .i64 s.C.fd),.v (.int .i64 s.C.wk),.v (.int .i64 s.C.rm),.v (.slice x.la s.l.length x.lc),.v (.int .i64 s.t),.v (.int .i64 s.m),.v (.slice x.sa x.S.length x.sc)],58),some ([.v (.int .i64 t'.O.k),.v (.int .i64 t'.O.s),.v (.int .i64 t'.O.v),.v (.int .i64 t'.O.g),.v (.string t'.O.d),.v (.int .i64 t'.ph),.v (.int .i64 t'.s),.v (.bool t'.P.ch),.v (.int .i64 t'.P.dl),.v (.int .i64 t'.P.s),.v (.int .i64 t'.P.b),.v (.slice y'.x.a t'.P.l.length y'.x.c),.v (.slice y'.x.ea t'.P.ev.length y'.x.ec),.v (.int .i64 t'.P.r.e),.v (.int .i64 t'.P.r.t.s),.v (.int .i64 t'.P.r.t.n),.v (.int .i64 t'.P.r.t.t),.v (.int .i64 t'.P.r.t.c),.v (.int .i64 t'.P.r.t.g),.v (.string t'.P.r.t.d),.v (.slice y'.x.ta t'.P.r.l.length y'.x.tc),.v (.int .i64 t'.P.r.n),.v (.int .i64 t'.r.e),.v (.int .i64 t'.r.t.s),.v (.int .i64 t'.r.t.n),.v (.int .i64 t'.r.t.t),.v (.int .i64 t'.r.t.c),.v (.int .i64 t'.r.t.g),.v (.string t'.r.t.d),.v (.slice y'.a t'.r.l.length y'.c),.v (.int .i64 t'.r.n),.v (.bool t'.pt)],52),some ([.v (.int .i64 s'.C.sh),.v (.int .i64 s'.C.so),.v (.int .i64 s'.C.hd),.v (.int .i64 s'.C.per),.v (.int .i64 s'.C.bp),.v (.int .i64 s'.C.fd),.v (.int .i64 s'.C.wk),.v (.int .i64 s'.C.rm),.v (.slice x'.la s'.l.length x'.lc),.v (.int .i64 s'.t),.v (.int .i64 s'.m),.v (.slice x'.sa x'.S.length x'.sc)],58),some ([.v (.int .i64 s.C.sh),.v (.int .i64 s.C.so),.v (.int .i64 s.C.hd),.v (.int .i64 s.C.per),.v (.int .i64 s.C.bp),.v (.int .i64 s.C.fd),.v (.int .i64 s.C.wk),.v (.int .i64 s.C.rm),.v (.slice (⟨x.la,x.lc,g1,c_g1,x.S⟩:Sn).la s.l.length (⟨x.la,x.lc,g1,c_g1,x.S⟩:Sn).lc),.v (.int .i64 s.t),.v (.int .i64 s.m),.v (.slice (⟨x.la,x.lc,g1,c_g1,x.S⟩:Sn).sa (⟨x.la,x.lc,g1,c_g1,x.S⟩:Sn).S.length (⟨x.la,x.lc,g1,c_g1,x.S⟩:Sn).sc)],31),some ([.v (.int .i64 s'.C.sh),.v (.int .i64 s'.C.so),.v (.int .i64 s'.C.hd),.v (.int .i64 s'.C.per),.v (.int .i64 s'.C.bp),.v (.int .i64 s'.C.fd),.v (.int .i64 s'.C.wk),.v (.int .i64 s'.C.rm),.v (.slice (⟨x'.la,x'.lc,g2,c_g2,x'.S⟩:Sn).la s'.l.length (⟨x'.la,x'.lc,g2,c_g2,x'.S⟩:Sn).lc),.v (.int .i64 s'.t),.v (.int .i64 s'.m),.v (.slice (⟨x'.la,x'.lc,g2,c_g2,x'.S⟩:Sn).sa (⟨x'.la,x'.lc,g2,c_g2,x'.S⟩:Sn).S.length (⟨x'.la,x'.lc,g2,c_g2,x'.S⟩:Sn).sc)],31)],[],(rowF (pt g2 x'.S.length) (cellsS x'.S)::(rowF (pt g1 x.S.length) (cellsS x.S)::((⟨y',x',ea,ec⟩:Sa).fs ⟨t',s',ev,p⟩++(rowF (pt none 0) (cellsL [])::(y.fs t++(sgF x s++sgF x0 s0))))))⟩,[.any,.any,.any,.p 0 0,.p 1 0,.p 2 0,.any,.v (.int .i64 who),.v (.int .i64 n),.p 3 0,.p 4 0,.v (.int .i64 k),.any,.p 5 0,.p 6 0,.any,.any,.p 7 0,.p 8 0,.v (.int .i64 k2),.any,.any,.any,.any,.any,.any,.any,.any,.any,.any,.any,.any,.any,.any,.any,.any,.any,.any,.any,.any,.any,.any,.any,.any,.any,.any,.any,.any,.any,.any,.any,.any,.any,.any,.any,.any,.any,.any,.any,.any,.any,.any,.any,.any,.any,.any,.any,.any,.any,.any,.any,.any,.any,.any,.any,.any,.any,.any,.any,.any,.any,.any,.any,.any,.any,.any,.any,.any,.any,.any,.any,.any,.any,.any,.any,.any,.any,.any,.any,.any,.any,.any,.any,.any,.any,.any,.any,.any,.any,.any,.any,.any,.any,.any,.any,.any,.any,.any,.any,.any,.any,.any,.any,.any,.any,.any,.any,.any,.any,.any,.any,.any,.any,.any,.any,.any,.any,.any,.any,.any,.any,.any,.any,.any,.any,.any,.any,.any,.any,.any,.any,.any,.any,.any,.any,.any,.any,.any,.any,.any,.any,.any,.any,.any,.any,.any,.any,.any,.any,.any,.any,.any,.any,.any,.any,.any,.any,.any,.any,.any,.any,.any,.any,.any,.any,.any,.any,.any,.any,.any,.any,.any,.any,.any,.any,.any,.any])) (fun k2=>s'.l.length - k2) 0 (Nat.zero_le _) ⟨by repeat' first | exact trivial | refine ⟨.inl rfl,?_⟩ | refine ⟨.inr rfl,?_⟩,⟨by repeat' first | exact trivial | refine ⟨.inl rfl,?_⟩ | refine ⟨.inr rfl,?_⟩,by repeat' first | exact trivial | refine ⟨.inl rfl,?_⟩ | refine ⟨.inr rfl,?_⟩,fun _ h=>h⟩,rfl⟩ ?_
    intro k2 hk2
    conv=>arg 5;whnf
    refine wp_br (fun h6=>?_) (fun h6=>?_)
    ·have hk3:k2<s'.l.length:=by have h4:=of_decide_eq_true (show decide ((k2:Int)<(s'.l.length:Int))=true from h6);omega
     have hk4:k2<s.l.length:=nLl▸hk3
     have hk5:k2<x.S.length:=by omega
     have hk6:k2<x'.S.length:=by omega
     obtain ⟨a,eaa⟩:∃z,s.l[k2]?=some z:=⟨_,List.getElem?_eq_getElem (by assumption)⟩
     obtain ⟨b,eb⟩:∃z,s'.l[k2]?=some z:=⟨_,List.getElem?_eq_getElem (by assumption)⟩
     obtain ⟨q,eq⟩:∃z,x.S[k2]?=some z:=⟨_,List.getElem?_eq_getElem (by assumption)⟩
     obtain ⟨r,er⟩:∃z,x'.S[k2]?=some z:=⟨_,List.getElem?_eq_getElem (by assumption)⟩
     have LK:=lkCase nL eaa eb
     have SC:=shCase nS (show s.S[k2]?=some (shdP q) by rw [← hx.2.2.2,List.getElem?_map,eq];rfl) (show s'.S[k2]?=some (shdP r) by rw [← hx'.2.2.2,List.getElem?_map,er];rfl)
     have hqm:=List.mem_of_getElem? eq
     have hrm:=List.mem_of_getElem? er
     (repeat first | ((conv=>arg 5;whnf);refine wp_must ⟨by omega,by show (k2:Int)<(s.l.length:Int);omega,hx.1.some hk4⟩ ?_;(conv=>arg 5;whnf);refine readF (sz:=1) (k:=k2) (f:=0) (.int .i64 a) rfl (show rowF (pt x.la s.l.length) (ic s.l)∈(rowF (pt g2 x'.S.length) (cellsS x'.S)::(rowF (pt g1 x.S.length) (cellsS x.S)::((⟨y',x',ea,ec⟩:Sa).fs ⟨t',s',ev,p⟩++(rowF (pt none 0) (cellsL [])::(y.fs t++(sgF x s++sgF x0 s0)))))) from .tail _ (.tail _ (List.mem_append_right _ (.tail _ (List.mem_append_right _ (List.mem_append_left _ (.head _))))))) hk4 (hx.1.some hk4) (by rw [show k2*1+0=k2 by omega];exact ic_get eaa) rfl ?_) | ((conv=>arg 5;whnf);refine wp_must ⟨by omega,by show (k2:Int)<(s'.l.length:Int);omega,hx'.1.some hk3⟩ ?_;(conv=>arg 5;whnf);refine readF (sz:=1) (k:=k2) (f:=0) (.int .i64 b) rfl (show rowF (pt x'.la s'.l.length) (ic s'.l)∈(rowF (pt g2 x'.S.length) (cellsS x'.S)::(rowF (pt g1 x.S.length) (cellsS x.S)::((⟨y',x',ea,ec⟩:Sa).fs ⟨t',s',ev,p⟩++(rowF (pt none 0) (cellsL [])::(y.fs t++(sgF x s++sgF x0 s0)))))) from .tail _ (.tail _ (List.mem_append_left _ (.tail _ (List.mem_append_right _ (.head _)))))) hk3 (hx'.1.some hk3) (by rw [show k2*1+0=k2 by omega];exact ic_get eb) rfl ?_))
     ((conv=>arg 5;whnf);refine wp_g1 (fun hA=>?_) (fun hA=>?_))
     all_goals first | have hA':a=who:=(by simpa using hA) | have hA':a≠who:=(by simpa using hA)
     all_goals (repeat first | ((conv=>arg 5;whnf);refine wp_must ⟨by omega,by show (k2:Int)<(s.l.length:Int);omega,hx.1.some hk4⟩ ?_;(conv=>arg 5;whnf);refine readF (sz:=1) (k:=k2) (f:=0) (.int .i64 a) rfl (show rowF (pt x.la s.l.length) (ic s.l)∈(rowF (pt g2 x'.S.length) (cellsS x'.S)::(rowF (pt g1 x.S.length) (cellsS x.S)::((⟨y',x',ea,ec⟩:Sa).fs ⟨t',s',ev,p⟩++(rowF (pt none 0) (cellsL [])::(y.fs t++(sgF x s++sgF x0 s0)))))) from .tail _ (.tail _ (List.mem_append_right _ (.tail _ (List.mem_append_right _ (List.mem_append_left _ (.head _))))))) hk4 (hx.1.some hk4) (by rw [show k2*1+0=k2 by omega];exact ic_get eaa) rfl ?_) | ((conv=>arg 5;whnf);refine wp_must ⟨by omega,by show (k2:Int)<(s'.l.length:Int);omega,hx'.1.some hk3⟩ ?_;(conv=>arg 5;whnf);refine readF (sz:=1) (k:=k2) (f:=0) (.int .i64 b) rfl (show rowF (pt x'.la s'.l.length) (ic s'.l)∈(rowF (pt g2 x'.S.length) (cellsS x'.S)::(rowF (pt g1 x.S.length) (cellsS x.S)::((⟨y',x',ea,ec⟩:Sa).fs ⟨t',s',ev,p⟩++(rowF (pt none 0) (cellsL [])::(y.fs t++(sgF x s++sgF x0 s0)))))) from .tail _ (.tail _ (List.mem_append_left _ (.tail _ (List.mem_append_right _ (.head _)))))) hk3 (hx'.1.some hk3) (by rw [show k2*1+0=k2 by omega];exact ic_get eb) rfl ?_))
     all_goals ((conv=>arg 5;whnf);refine wp_g1 (fun hB=>?_) (fun hB=>?_))
     all_goals first | have hB':a=0:=(by simpa using hB) | have hB':a≠0:=(by simpa using hB)
     all_goals (repeat first | ((conv=>arg 5;whnf);refine wp_must ⟨by omega,by show (k2:Int)<(s.l.length:Int);omega,hx.1.some hk4⟩ ?_;(conv=>arg 5;whnf);refine readF (sz:=1) (k:=k2) (f:=0) (.int .i64 a) rfl (show rowF (pt x.la s.l.length) (ic s.l)∈(rowF (pt g2 x'.S.length) (cellsS x'.S)::(rowF (pt g1 x.S.length) (cellsS x.S)::((⟨y',x',ea,ec⟩:Sa).fs ⟨t',s',ev,p⟩++(rowF (pt none 0) (cellsL [])::(y.fs t++(sgF x s++sgF x0 s0)))))) from .tail _ (.tail _ (List.mem_append_right _ (.tail _ (List.mem_append_right _ (List.mem_append_left _ (.head _))))))) hk4 (hx.1.some hk4) (by rw [show k2*1+0=k2 by omega];exact ic_get eaa) rfl ?_) | ((conv=>arg 5;whnf);refine wp_must ⟨by omega,by show (k2:Int)<(s'.l.length:Int);omega,hx'.1.some hk3⟩ ?_;(conv=>arg 5;whnf);refine readF (sz:=1) (k:=k2) (f:=0) (.int .i64 b) rfl (show rowF (pt x'.la s'.l.length) (ic s'.l)∈(rowF (pt g2 x'.S.length) (cellsS x'.S)::(rowF (pt g1 x.S.length) (cellsS x.S)::((⟨y',x',ea,ec⟩:Sa).fs ⟨t',s',ev,p⟩++(rowF (pt none 0) (cellsL [])::(y.fs t++(sgF x s++sgF x0 s0)))))) from .tail _ (.tail _ (List.mem_append_left _ (.tail _ (List.mem_append_right _ (.head _)))))) hk3 (hx'.1.some hk3) (by rw [show k2*1+0=k2 by omega];exact ic_get eb) rfl ?_))
     all_goals ((conv=>arg 5;whnf);refine wp_g1 (fun hC=>?_) (fun hC=>?_))
     all_goals first | have hC':b≠a:=(by simpa using hC) | have hC':b=a:=(by simpa using hC)
     all_goals try (exfalso;omega)
     all_goals try ((conv=>arg 5;whnf);first | refine wp_g1 (fun hD=>absurd hD (by intro h;first | (have h2:b≠0:=(by simpa using h);omega) | (have h2:b≠who:=(by simpa using h);omega))) (fun _=>?_) | refine wp_br (fun hD=>absurd hD (by intro h;first | (have h2:b≠0:=(by simpa using h);omega) | (have h2:b≠who:=(by simpa using h);omega))) (fun _=>?_))
     all_goals
      conv=>arg 5;whnf
      refine wp_must ⟨by omega,by show (k2:Int)<(x.S.length:Int);omega,h_g1.some hk5⟩ ?_
      conv=>arg 5;whnf
      refine readG Sxv.env_ok.keeps (vs:=q.cs) (sz:=2) (k:=k2) rfl rfl (show rowF (pt g1 x.S.length) (cellsS x.S)∈(rowF (pt g2 x'.S.length) (cellsS x'.S)::(rowF (pt g1 x.S.length) (cellsS x.S)::((⟨y',x',ea,ec⟩:Sa).fs ⟨t',s',ev,p⟩++(rowF (pt none 0) (cellsL [])::(y.fs t++(sgF x s++sgF x0 s0)))))) from .tail _ (.head _)) hk5 (h_g1.some hk5) (cellsS_at eq) rfl ?_
      conv=>arg 5;whnf
      refine wp_must ⟨by omega,by show (k2:Int)<(x'.S.length:Int);omega,h_g2.some hk6⟩ ?_
      conv=>arg 5;whnf
      refine readG Sxv.env_ok.keeps (vs:=r.cs) (sz:=2) (k:=k2) rfl rfl (show rowF (pt g2 x'.S.length) (cellsS x'.S)∈(rowF (pt g2 x'.S.length) (cellsS x'.S)::(rowF (pt g1 x.S.length) (cellsS x.S)::((⟨y',x',ea,ec⟩:Sa).fs ⟨t',s',ev,p⟩++(rowF (pt none 0) (cellsL [])::(y.fs t++(sgF x s++sgF x0 s0)))))) from .head _) hk6 (h_g2.some hk6) (cellsS_at er) rfl ?_
      conv=>arg 5;whnf
      refine meetBp (f:=24) (ok:=fun B=>shdP q=shdP r→B=true) rfl (by kernel_rfl) (fun β ρ w' hM'=>rsameK q r w' (acs_of hM' (hx.2.2.1 q hqm).1 (hx.2.2.1 q hqm).2.1 (hx.2.2.1 q hqm).2.2 fun φ hφ=>(show φ∈(rowF (pt g2 x'.S.length) (cellsS x'.S)::(rowF (pt g1 x.S.length) (cellsS x.S)::((⟨y',x',ea,ec⟩:Sa).fs ⟨t',s',ev,p⟩++(rowF (pt none 0) (cellsL [])::(y.fs t++(sgF x s++sgF x0 s0)))))) from .tail _ (.tail _ (List.mem_append_right _ (.tail _ (List.mem_append_right _ (List.mem_append_left _ (.tail _ (.tail _ (List.mem_flatMap.2 ⟨q,hqm,hφ⟩)))))))))) (acs_of hM' (hx'.2.2.1 r hrm).1 (hx'.2.2.1 r hrm).2.1 (hx'.2.2.1 r hrm).2.2 fun φ hφ=>(show φ∈(rowF (pt g2 x'.S.length) (cellsS x'.S)::(rowF (pt g1 x.S.length) (cellsS x.S)::((⟨y',x',ea,ec⟩:Sa).fs ⟨t',s',ev,p⟩++(rowF (pt none 0) (cellsL [])::(y.fs t++(sgF x s++sgF x0 s0)))))) from .tail _ (.tail _ (List.mem_append_left _ (.tail _ (List.mem_append_right _ (.tail _ (.tail _ (List.mem_flatMap.2 ⟨r,hrm,hφ⟩)))))))))) (fun B hB=>?_)
      conv=>arg 5;whnf
      refine wp_g1 (fun h8=>?_) (fun _=>?_)
      have haw:a=who:=SC.elim (fun e=>by rw [hB e] at h8;cases h8) (fun e=>by rw [eaa] at e;exact Option.some.inj e)
      conv=>arg 5;whnf
      refine wp_must ⟨by omega,by show (k2:Int)<(s.l.length:Int);omega,hx.1.some hk4⟩ ?_
      conv=>arg 5;whnf
      refine readF (sz:=1) (k:=k2) (f:=0) (.int .i64 a) rfl (show rowF (pt x.la s.l.length) (ic s.l)∈(rowF (pt g2 x'.S.length) (cellsS x'.S)::(rowF (pt g1 x.S.length) (cellsS x.S)::((⟨y',x',ea,ec⟩:Sa).fs ⟨t',s',ev,p⟩++(rowF (pt none 0) (cellsL [])::(y.fs t++(sgF x s++sgF x0 s0)))))) from .tail _ (.tail _ (List.mem_append_right _ (.tail _ (List.mem_append_right _ (List.mem_append_left _ (.head _))))))) hk4 (hx.1.some hk4) (by rw [show k2*1+0=k2 by omega];exact ic_get eaa) rfl ?_
      conv=>arg 5;whnf
      refine wp_br (fun h=>absurd h (by rw [haw];simp)) (fun _=>?_)
      all_goals
       conv=>arg 5;whnf
       refine wp_must ⟨by show -9223372036854775808≤(k2:Int)+1;omega,by show (k2:Int)+1≤9223372036854775807;omega⟩ ?_
       conv=>arg 5;whnf
       refine wp_end ⟨k2+1,hk3,⟨by repeat' first | exact trivial | refine ⟨.inl rfl,?_⟩ | refine ⟨.inr rfl,?_⟩,⟨by repeat' first | exact trivial | refine ⟨.inl rfl,?_⟩ | refine ⟨.inr rfl,?_⟩,by repeat' first | exact trivial | refine ⟨.inl rfl,?_⟩ | refine ⟨.inr rfl,?_⟩,fun _ h=>h⟩,rfl⟩,by show s'.l.length - (k2+1)<s'.l.length - k2;omega⟩
    ·skip
     conv=>arg 5;whnf
     refine wp_must ⟨by show -9223372036854775808≤(k:Int)+1;omega,by show (k:Int)+1≤9223372036854775807;omega⟩ ?_
     conv=>arg 5;whnf
     refine wp_end ⟨⟨k+1,t',s',y',x'⟩,⟨by show ((k+1:Nat):Int)≤max n 0;omega,nP,hy',hx'⟩,⟨by repeat' first | exact trivial | refine ⟨.inl rfl,?_⟩ | refine ⟨.inr rfl,?_⟩,⟨by repeat' first | exact trivial | refine ⟨.inl rfl,?_⟩ | refine ⟨.inr rfl,?_⟩,by repeat' first | exact trivial | refine ⟨.inl rfl,?_⟩ | refine ⟨.inr rfl,?_⟩,fun φ h=>endF (A:=rowF (pt ea ev.length) (cellsE ev)) (Y:=y'.fs t') (X:=sgF x' s') (X0:=sgF x0 s0) (H:=(rowF (pt none 0) (cellsL [])::(y.fs t++(sgF x s++sgF x0 s0)))) (show φ∈rowF (pt none 0) (cellsL [])::(y'.fs t'++(sgF x' s'++sgF x0 s0)) from h) (show _∈(rowF (pt g2 x'.S.length) (cellsS x'.S)::(rowF (pt g1 x.S.length) (cellsS x.S)::((⟨y',x',ea,ec⟩:Sa).fs ⟨t',s',ev,p⟩++(rowF (pt none 0) (cellsL [])::(y.fs t++(sgF x s++sgF x0 s0)))))) from .tail _ (.tail _ (List.mem_append_right _ (.head _)))) (fun ψ hψ=>.tail _ (.tail _ hψ)) (fun ψ hψ=>.tail _ (List.mem_append_right _ (List.mem_append_right _ hψ)))⟩,rfl⟩,by show n.toNat - (k+1)<n.toNat - k;omega⟩
end Go.Proofs.YtmoopmcdolonjaaGreatDoor.taskKeeps
