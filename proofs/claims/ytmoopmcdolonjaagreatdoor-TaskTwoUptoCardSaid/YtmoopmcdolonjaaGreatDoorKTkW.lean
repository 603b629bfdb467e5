/- Layer 16 (task): hopperlaw16.live. -/
import Derived.Test.YtmoopmcdolonjaaGreatDoorKTkRR
import Derived.Test.YtmoopmcdolonjaaGreatDoorKTkJJ
set_option linter.all false
set_option maxHeartbeats 4000000
set_option maxRecDepth 100000
namespace Go.Proofs.YtmoopmcdolonjaaGreatDoor.task
open Go.RowKit Sx txn queue greedy shard pool Go.Proofs.YtmoopmcdolonjaaGreatDoor.look lock
abbrev LO:Oq:=⟨0,0,0,0,bz pool.T1⟩
abbrev LCf:Cf:=⟨1,0,1,2,0,1,1,1⟩
def LL:Pl:=⟨true,1,1,0,[pool.T1],[(1,pool.T1)],⟨0,tx0,[],0⟩⟩
def tL:Nat→Tk
 |0=>newT LO
 |1=>⟨LO,1,1,failL 0,R0,false⟩
 |2=>⟨LO,2,1,failL 0,R0,false⟩
 |3=>⟨LO,3,1,LL,R0,false⟩
 |4=>⟨LO,4,1,LL,LL.r,true⟩
 |5=>⟨LO,5,1,LL,LL.r,true⟩
 |_+6=>⟨LO,6,1,LL,LL.r,true⟩
def sL:Nat→Sg
 |0=>⟨LCf,[0],0,1,[([],0)]⟩
 |1=>⟨LCf,[0],0,1,[([],0)]⟩
 |2=>⟨LCf,[7],0,1,[([],0)]⟩
 |3=>⟨LCf,[7],0,1,[([],0)]⟩
 |4=>⟨LCf,[7],1,1,[([],0)]⟩
 |5=>⟨LCf,[7],1,1,[([(1,0,[pool.T1])],1)]⟩
 |_+6=>⟨LCf,[0],1,1,[([(1,0,[pool.T1])],1)]⟩
def dL (k:Nat):List Ev:=if k=3 then [(1,pool.T1)] else []
def pL (k:Nat):Bool:=decide (k=3)
def eL (k:Nat):List Ev:=if k≤3 then [] else [(1,pool.T1)]
def nL (k:Nat):Int:=if k≤3 then 0 else 1
theorem stepL:∀k,k<6→stepR (tL k) 7 (sL k)=⟨tL (k+1),sL (k+1),dL k,pL k⟩
 |0,_=>by kernel_rfl
 |1,_=>by kernel_rfl
 |2,_=>by kernel_rfl
 |3,_=>by kernel_rfl
 |4,_=>by kernel_rfl
 |5,_=>by kernel_rfl
 |k+6,h=>by omega
theorem ableL:∀k,k<6→ableV (tL k) 7 (sL k)=true
 |0,_=>by kernel_rfl
 |1,_=>by kernel_rfl
 |2,_=>by kernel_rfl
 |3,_=>by kernel_rfl
 |4,_=>by kernel_rfl
 |5,_=>by kernel_rfl
 |k+6,h=>by omega
theorem mayL:∀k,k≤6→mayS (sL k)=true
 |0,_=>by kernel_rfl
 |1,_=>by kernel_rfl
 |2,_=>by kernel_rfl
 |3,_=>by kernel_rfl
 |4,_=>by kernel_rfl
 |5,_=>by kernel_rfl
 |6,_=>by kernel_rfl
 |k+7,h=>by omega
theorem phL:∀k,k≤6→(tL k).ph=k
 |0,_=>rfl
 |1,_=>rfl
 |2,_=>rfl
 |3,_=>rfl
 |4,_=>rfl
 |5,_=>rfl
 |6,_=>rfl
 |k+7,h=>by omega
theorem szLO:(bz pool.T1).size≤1000000:=of_decide_eq_true (by kernel_rfl)
theorem szL:∀k,k≤6→Tsz (tL k):=by
 have f1:Fits 1:=by constructor <;> decide
 have f0:Fits 0:=by constructor <;> decide
 have t1:∀z∈[pool.T1],z.d.size≤maxLen:=fun z hz=>by rw[List.mem_singleton] at hz;subst hz;exact Nat.zero_le _
 have A:∀(p s:Int) (r:Rq) (b:Bool),r.l.length≤1000→Tsz ⟨LO,p,s,failL 0,r,b⟩:=fun p s r b h=>⟨szLO,Nat.zero_le _,fun z hz=>(by cases hz),Nat.zero_le _,Nat.zero_le _,h,f0⟩
 have B:∀(p s:Int) (r:Rq) (b:Bool),r.l.length≤1000→Tsz ⟨LO,p,s,LL,r,b⟩:=fun p s r b h=>⟨szLO,(show 1≤1000 by decide),t1,(show 1≤1000 by decide),Nat.zero_le _,h,f1⟩
 intro k hk
 match k,hk with
 |0,_=>exact A _ _ _ _ (by decide)
 |1,_=>exact A _ _ _ _ (by decide)
 |2,_=>exact A _ _ _ _ (by decide)
 |3,_=>exact B _ _ _ _ (by decide)
 |4,_=>exact B _ _ _ _ (by decide)
 |5,_=>exact B _ _ _ _ (by decide)
 |6,_=>exact B _ _ _ _ (by decide)
 |k+7,h=>omega
abbrev XO:Oq:=⟨0,0,0,0,⟨#[120]⟩⟩
theorem stepX:stepR (newT XO) 7 (sL 6)=⟨⟨XO,6,0,failL 0,⟨2,tx0,[],0⟩,true⟩,sL 6,[],true⟩:=by kernel_rfl
theorem szX:Tsz (newT XO):=⟨by show 1≤1000000;omega,Nat.zero_le _,fun z hz=>(by cases hz),Nat.zero_le _,Nat.zero_le _,Nat.zero_le _,by constructor <;> decide⟩
theorem able6:ableV (tL 6) 7 (sL 6)=false:=by kernel_rfl
theorem may6 (x:Sn) (w:World) (hM:Most w) (hS:Sgs w x (sL 6)) (hq:∀q∈x.S,q.n≤1000000):Calls Tryz.prog 30 (List.toArray [sgV (sL 6) x]) w fun e w'=>e=.returned (.bool true)∧Below w.heap.size w w':=by
 have:=may (sL 6) x w hM hS hq
 rw[mayL 6 (by decide)] at this
 exact this
theorem loop_vac {P:Program} {W:World} {G:Option Nat} {Q:Ending→World→Prop} {ds:List Deferred} {body:Code} {m:M} {t:List Sx.T} {k:Exit→M→List Sx.T→Tree} (vac:List Fact) (hv:∀φ∈vac,φ.g=none) (h:(Tree.loop body (m.learn vac) t k).wpD P W G Q ds):(Tree.loop body m t k).wpD P W G Q ds:=
 fun β ρ a w hm hr hd=>h β ρ a w (hm.learn vac fun φ hφ g hg=>by rw[hv φ hφ] at hg;cases hg) hr hd
theorem meetOp {W:World} {G:Option Nat} {Q:Ending→World→Prop} {ds:List Deferred} {f:FuncId} {args:List Sx.T} {l:List Value} {m:M} {k:Value→List Fact→Tree} (s:Sg) (hv:valsOf args=some l) (hc:callable Tryz.prog f=true)
  (hC:∀β ρ w,Mem W G m β ρ w→Calls Tryz.prog f (List.toArray l) w fun e w'=>∃x:Sn,Sgo x s∧Lay w w' [] e (.tuple #[sgV s x,.int .i64 0]) (sgF x s))
  (h:∀x:Sn,Sgo x s→(∀φ∈sgF x s,New W [] φ)→(k (.tuple #[sgV s x,.int .i64 0]) (sgF x s)).wpD Tryz.prog W G Q ds):(Tree.call f args m k).wpD Tryz.prog W G Q ds:=
 meetLy (ι:=Sn) (ok:=fun x=>Sgo x s) (v:=fun x=>.tuple #[sgV s x,.int .i64 0]) (fs:=fun x=>sgF x s) [] (by simp) hv hc hC h
theorem open_L (w:World):Calls Tryz.prog 28 (List.toArray [LCf.val]) w fun e w'=>∃x:Sn,Sgo x (sL 0)∧Lay w w' [] e (.tuple #[sgV (sL 0) x,.int .i64 0]) (sgF x (sL 0)):=open_ LCf w (by kernel_rfl)
theorem new_any {O:Oq} (w:World):Calls Tryz.prog 13 (List.toArray [O.val]) w fun e w'=>e=.returned (tkV (newT O) ⟨⟨none,0,none,0,none,0⟩,none,0⟩)∧Below w.heap.size w w':=new O w
def y0:Tn:=⟨⟨none,0,none,0,none,0⟩,none,0⟩
theorem y0_ok (O:Oq):y0.ok (newT O):=⟨⟨sl0,sl0,sl0⟩,sl0⟩
theorem y0_fs (O:Oq) {w:World}:∀φ∈y0.fs (newT O),∀g,φ.g=some g→∃o,w.heap[g]?=some o∧φ.holds o:=fun φ hφ g hg=>by
 unfold Tn.fs Pn.fs at hφ
 simp only[List.mem_append,List.mem_cons,List.not_mem_nil,or_false] at hφ
 rcases hφ with (rfl|rfl|rfl)|rfl <;> cases hg
theorem step_at {t:Tk} {who:Int} {s:Sg} {r:Sr} (e:stepR t who s=r) (y:Tn) (x:Sn) (w:World) (hM:Most w) (hy:y.ok t) (hyf:∀φ∈y.fs t,∀g,φ.g=some g→∃o,w.heap[g]?=some o∧φ.holds o) (hx:Sgo x s) (hxf:∀φ∈sgF x s,∀g,φ.g=some g→∃o,w.heap[g]?=some o∧φ.holds o) (hm:mayS s=true) (ht:Tsz t) :
  Calls Tryz.prog 16 (List.toArray [tkV t y,.int .i64 who,sgV s x]) w fun e w'=>StA w w' [] e r:=e▸step t y who s x w hM hy hyf hx hxf hm ht
theorem able_at {t:Tk} {who:Int} {s:Sg} {b:Bool} (e:ableV t who s=b) (hm:mayS s=true) (y:Tn) (x:Sn) (w:World) (hM:Most w) (hx:Sgo x s) (hxf:∀φ∈sgF x s,∀g,φ.g=some g→∃o,w.heap[g]?=some o∧φ.holds o) :
  Calls Tryz.prog 15 (List.toArray [tkV t y,.int .i64 who,sgV s x]) w fun e w'=>e=.returned (.bool b)∧Below w.heap.size w w':=by
 have hq0:∀q∈s.S,q.1.length≤1000:=fun q hq=>by
  obtain⟨k,hk⟩:=List.mem_iff_getElem?.1 hq
  have:=may_len hm hk
  omega
 have hF:Sgs w x s:=⟨⟨hx.1,fun g hg=>hxf _ (.head _) g hg⟩,⟨hx.2.1,rfl,fun g hg=>hxf _ (.tail _ (.head _)) g hg,fun q hq=>⟨(hx.2.2.1 q hq).1,(hx.2.2.1 q hq).2.1,fun g hg=>hxf _ (.tail _ (.tail _ (List.mem_flatMap.2 ⟨q,hq,.head _⟩))) g hg,fun z hz=>⟨(hx.2.2.1 q hq).2.2 z hz,fun g hg=>hxf _ (.tail _ (.tail _ (List.mem_flatMap.2 ⟨q,hq,.tail _ (List.mem_map.2 ⟨z,hz,rfl⟩)⟩))) g hg⟩⟩⟩,hx.2.2.2⟩
 exact e▸able t y who s x w hM hF (fun q hq=>Nat.le_trans (sgs_n hx hq0 q hq) (by decide)) (by have:=(may_small hm).1;omega)
theorem live (w:World) (hM:Most w):Calls Tryz.prog 9 (List.toArray []) w fun e w'=>e=.returned (.bool true)∧Below w.heap.size w w':=by
 refine calls_of_exec Sxt.env_ok.keeps Tryz.func9 rfl [(18,(.one 0 (.one 2 (.fork3 1 (.fork3 3 (.one 4 (.one 5 (.one 6 (.one 7 (.one 8 (.fork 9 (.one 10 (.one 11 (.one 12 (.one 13 (.one 14 (.done)))))) 10 (.one 9 (.one 11 (.one 12 (.one 13 (.one 14 (.done)))))))))))) 9 (.fork 3 (.one 4 (.one 5 (.one 6 (.one 7 (.one 8 (.one 10 (.one 11 (.one 12 (.one 13 (.one 14 (.done))))))))))) 10 (.one 3 (.one 4 (.one 5 (.one 6 (.one 7 (.one 8 (.one 11 (.one 12 (.one 13 (.one 14 (.done)))))))))))) 10 (.fork 3 (.one 4 (.one 5 (.one 6 (.one 7 (.one 8 (.one 9 (.one 11 (.one 12 (.one 13 (.one 14 (.done))))))))))) 9 (.one 3 (.one 4 (.one 5 (.one 6 (.one 7 (.one 8 (.one 11 (.one 12 (.one 13 (.one 14 (.done))))))))))))) 9 (.fork 1 (.fork 3 (.one 4 (.one 5 (.one 6 (.one 7 (.one 8 (.one 10 (.one 11 (.one 12 (.one 13 (.one 14 (.done))))))))))) 10 (.one 3 (.one 4 (.one 5 (.one 6 (.one 7 (.one 8 (.one 11 (.one 12 (.one 13 (.one 14 (.done)))))))))))) 10 (.one 1 (.one 3 (.one 4 (.one 5 (.one 6 (.one 7 (.one 8 (.one 11 (.one 12 (.one 13 (.one 14 (.done))))))))))))) 10 (.fork 1 (.fork 3 (.one 4 (.one 5 (.one 6 (.one 7 (.one 8 (.one 9 (.one 11 (.one 12 (.one 13 (.one 14 (.done))))))))))) 9 (.one 3 (.one 4 (.one 5 (.one 6 (.one 7 (.one 8 (.one 11 (.one 12 (.one 13 (.one 14 (.done)))))))))))) 9 (.one 1 (.one 3 (.one 4 (.one 5 (.one 6 (.one 7 (.one 8 (.one 11 (.one 12 (.one 13 (.one 14 (.done))))))))))))))),[]))] (by kernel_rfl) [] (by simp) ?_
 conv=>arg 5;whnf
 refine meetOp (f:=28) (sL 0) rfl (by kernel_rfl) (fun β ρ w' hM'=>open_L w') (fun x hx _=>?_)
 conv=>arg 5;whnf
 refine meetc (f:=29) (v:=.tuple #[.string (bz pool.T1),.bool true]) rfl (by kernel_rfl) (fun β ρ w' hM'=>enc_ pool.T1 rfl w' (Nat.zero_le _)) ?_
 conv=>arg 5;whnf
 refine meetc (f:=13) (v:=tkV (newT LO) y0) rfl (by kernel_rfl) (fun β ρ w' hM'=>new_any w') ?_
 conv=>arg 5;whnf
 refine loop_vac (rowF (pt none 0) (cellsL [])::y0.fs (newT LO)) (fun φ hφ=>by simp only[Tn.fs,Pn.fs,List.mem_append,List.mem_cons,List.not_mem_nil,or_false] at hφ;rcases hφ with rfl|(rfl|rfl|rfl)|rfl <;> rfl) ?_
 refine loop_nil 7 117 8 rfl ?_
 refine loop_rule Sxt.env_ok.keeps [(18,(.one 0 (.one 2 (.fork3 1 (.fork3 3 (.one 4 (.one 5 (.one 6 (.one 7 (.one 8 (.fork 9 (.one 10 (.one 11 (.one 12 (.one 13 (.one 14 (.done)))))) 10 (.one 9 (.one 11 (.one 12 (.one 13 (.one 14 (.done)))))))))))) 9 (.fork 3 (.one 4 (.one 5 (.one 6 (.one 7 (.one 8 (.one 10 (.one 11 (.one 12 (.one 13 (.one 14 (.done))))))))))) 10 (.one 3 (.one 4 (.one 5 (.one 6 (.one 7 (.one 8 (.one 11 (.one 12 (.one 13 (.one 14 (.done)))))))))))) 10 (.fork 3 (.one 4 (.one 5 (.one 6 (.one 7 (.one 8 (.one 9 (.one 11 (.one 12 (.one 13 (.one 14 (.done))))))))))) 9 (.one 3 (.one 4 (.one 5 (.one 6 (.one 7 (.one 8 (.one 11 (.one 12 (.one 13 (.one 14 (.done))))))))))))) 9 (.fork 1 (.fork 3 (.one 4 (.one 5 (.one 6 (.one 7 (.one 8 (.one 10 (.one 11 (.one 12 (.one 13 (.one 14 (.done))))))))))) 10 (.one 3 (.one 4 (.one 5 (.one 6 (.one 7 (.one 8 (.one 11 (.one 12 (.one 13 (.one 14 (.done)))))))))))) 10 (.one 1 (.one 3 (.one 4 (.one 5 (.one 6 (.one 7 (.one 8 (.one 11 (.one 12 (.one 13 (.one 14 (.done))))))))))))) 10 (.fork 1 (.fork 3 (.one 4 (.one 5 (.one 6 (.one 7 (.one 8 (.one 9 (.one 11 (.one 12 (.one 13 (.one 14 (.done))))))))))) 9 (.one 3 (.one 4 (.one 5 (.one 6 (.one 7 (.one 8 (.one 11 (.one 12 (.one 13 (.one 14 (.done)))))))))))) 9 (.one 1 (.one 3 (.one 4 (.one 5 (.one 6 (.one 7 (.one 8 (.one 11 (.one 12 (.one 13 (.one 14 (.done))))))))))))))),[]))] (by kernel_rfl) (fun i:Nat×Tn×Sn=>i.1≤6∧i.2.1.ok (tL i.1)∧Sgo i.2.2 (sL i.1)) (fun i=>(⟨[some ([.v (.int .i64 1),.v (.int .i64 0),.v (.int .i64 1),.v (.int .i64 2),.v (.int .i64 0),.v (.int .i64 1),.v (.int .i64 1),.v (.int .i64 1)],25),some ([.v (.int .i64 (sL i.1).C.sh),.v (.int .i64 (sL i.1).C.so),.v (.int .i64 (sL i.1).C.hd),.v (.int .i64 (sL i.1).C.per),.v (.int .i64 (sL i.1).C.bp),.v (.int .i64 (sL i.1).C.fd),.v (.int .i64 (sL i.1).C.wk),.v (.int .i64 (sL i.1).C.rm),.v (.slice i.2.2.la (sL i.1).l.length i.2.2.lc),.v (.int .i64 (sL i.1).t),.v (.int .i64 (sL i.1).m),.v (.slice i.2.2.sa i.2.2.S.length i.2.2.sc)],58),some ([.v (.int .i64 (tL i.1).O.k),.v (.int .i64 (tL i.1).O.s),.v (.int .i64 (tL i.1).O.v),.v (.int .i64 (tL i.1).O.g),.v (.string (tL i.1).O.d),.v (.int .i64 (tL i.1).ph),.v (.int .i64 (tL i.1).s),.v (.bool (tL i.1).P.ch),.v (.int .i64 (tL i.1).P.dl),.v (.int .i64 (tL i.1).P.s),.v (.int .i64 (tL i.1).P.b),.v (.slice i.2.1.x.a (tL i.1).P.l.length i.2.1.x.c),.v (.slice i.2.1.x.ea (tL i.1).P.ev.length i.2.1.x.ec),.v (.int .i64 (tL i.1).P.r.e),.v (.int .i64 (tL i.1).P.r.t.s),.v (.int .i64 (tL i.1).P.r.t.n),.v (.int .i64 (tL i.1).P.r.t.t),.v (.int .i64 (tL i.1).P.r.t.c),.v (.int .i64 (tL i.1).P.r.t.g),.v (.string (tL i.1).P.r.t.d),.v (.slice i.2.1.x.ta (tL i.1).P.r.l.length i.2.1.x.tc),.v (.int .i64 (tL i.1).P.r.n),.v (.int .i64 (tL i.1).r.e),.v (.int .i64 (tL i.1).r.t.s),.v (.int .i64 (tL i.1).r.t.n),.v (.int .i64 (tL i.1).r.t.t),.v (.int .i64 (tL i.1).r.t.c),.v (.int .i64 (tL i.1).r.t.g),.v (.string (tL i.1).r.t.d),.v (.slice i.2.1.a (tL i.1).r.l.length i.2.1.c),.v (.int .i64 (tL i.1).r.n),.v (.bool (tL i.1).pt)],52)],[some ⟨117,8,(eL i.1).length,cellsE (eL i.1)⟩],rowF (pt none 0) (cellsL [])::(i.2.1.fs (tL i.1)++sgF i.2.2 (sL i.1))⟩,[.any,.p 0 0,.p 1 0,.v (.int .i64 0),.any,.any,.p 2 0,.r 0,.v (.int .i64 (nL i.1)),.v (.int .i64 i.1),.any,.any,.any,.any,.any,.any,.any,.any,.any,.any,.any,.any,.any,.any,.any,.any,.any,.any,.any,.any,.any,.any,.any,.any,.any,.any,.any,.any,.any,.any,.any,.any,.any,.any,.any,.any,.any,.any,.any,.any,.any,.any,.any,.any,.any,.any,.any,.any,.any,.any,.any,.any,.any,.any,.any,.any,.any,.any,.any,.any,.any,.any,.any,.any,.any,.any,.any,.any,.any,.any,.any,.any,.any,.any,.any,.any,.any,.any,.any,.any,.any,.any,.any,.any,.any,.any,.any,.any,.any,.any,.any,.any,.any,.any,.any,.any,.any,.any,.any,.any,.any,.any,.any,.any,.any,.any,.any,.any,.any,.any,.any,.any,.any,.any,.any,.any,.any,.any,.any,.any,.any,.any,.any,.any,.any,.any,.any,.any,.any,.any,.any,.any,.any,.any,.any,.any,.any,.any,.any,.any])) (fun i=>6 - i.1) (0,y0,x) ⟨Nat.zero_le _,y0_ok LO,hx⟩ ⟨by repeat' first|exact trivial|refine⟨.inl rfl,?_⟩|refine⟨.inr rfl,?_⟩,⟨by repeat' first|exact trivial|refine⟨.inl rfl,?_⟩|refine⟨.inr rfl,?_⟩,by repeat' first|exact trivial|refine⟨.inl rfl,?_⟩|refine⟨.inr rfl,?_⟩,fun φ h=>(show φ∈(rowF (pt none 0) (cellsL [])::y0.fs (newT LO))++(sgF x (sL 0)++[]) from by rw[List.append_nil];exact (List.mem_cons.1 h).elim (fun e=>e▸.head _) fun h=>(List.mem_append.1 (show φ∈y0.fs (newT LO)++sgF x (sL 0) from h)).elim (fun h=>List.mem_append_left _ (.tail _ h)) (fun h=>List.mem_append_right _ h))⟩,rfl⟩ ?_
 rintro⟨k,y,x⟩ ⟨hk,hy,hx⟩
 have hk:k≤6:=hk
 have hy:y.ok (tL k):=hy
 have hx:Sgo x (sL k):=hx
 conv=>arg 5;whnf
 refine wp_br (fun h1=>?_) (fun h1=>?_)
 ·have hlt:k<6:=by have h3:=of_decide_eq_true (show decide ((k:Int)<6)=true from h1);omega
  have hph:=phL k hk
  conv=>arg 5;whnf
  refine meetc (f:=15) (v:=.bool true) rfl (by kernel_rfl) (fun β ρ w' hM'=>able_at (ableL k hlt) (mayL k hk) y x w' (hM.later hM'.below) hx (fun φ hφ g hg=>(hM'.fact φ (show φ∈(rowF (pt none 0) (cellsL [])::(y.fs (tL k)++sgF x (sL k))) from .tail _ (List.mem_append_right _ hφ)) g hg).2)) ?_
  conv=>arg 5;whnf
  refine wp_br (fun h=>by have h2:(!((tL k).ph==(k:Int)))=true:=h;rw[hph] at h2;simp at h2) (fun _=>?_)
  conv=>arg 5;whnf
  refine meetSt (f:=16) ⟨tL (k+1),sL (k+1),dL k,pL k⟩ [] (by simp) rfl (by kernel_rfl) (fun β ρ w' hM'=>step_at (stepL k hlt) y x w' (hM.later hM'.below) hy (fun φ hφ g hg=>(hM'.fact φ (show φ∈(rowF (pt none 0) (cellsL [])::(y.fs (tL k)++sgF x (sL k))) from .tail _ (List.mem_append_left _ hφ)) g hg).2) hx (fun φ hφ g hg=>(hM'.fact φ (show φ∈(rowF (pt none 0) (cellsL [])::(y.fs (tL k)++sgF x (sL k))) from .tail _ (List.mem_append_right _ hφ)) g hg).2) (mayL k hk) (szL k hk)) (fun a ha hnew=>?_)
  obtain⟨y',x',ea,ec⟩:=a
  obtain⟨hy',hx',he'⟩:=ha
  have hy':y'.ok (tL (k+1)):=hy'
  have hx':Sgo x' (sL (k+1)):=hx'
  have he':Sl ea (dL k).length ec:=he'
  have hd1:(dL k).length≤1:=by unfold dL;split <;> simp
  have he1:(eL k).length≤1:=by unfold eL;split <;> simp
  have eE:eL (k+1)=eL k++dL k:=by
   unfold eL dL
   by_cases h3:k=3
   ·subst h3;rfl
   ·by_cases h4:k≤3
    ·rw[if_pos (by omega),if_pos h4,if_neg h3];rfl
    ·rw[if_neg (by omega),if_neg h4,if_neg h3];rfl
  have eN:nL (k+1)=nL k+(if pL k=true then 1 else 0):=by
   unfold nL pL
   by_cases h3:k=3
   ·subst h3;rfl
   ·by_cases h4:k≤3
    ·rw[if_pos (by omega),if_pos h4,if_neg (by simpa using h3)];rfl
    ·rw[if_neg (by omega),if_neg h4,if_neg (by simpa using h3)];rfl
  have hn0:0≤nL k∧nL k≤1:=by unfold nL;split <;> omega
  have ec1:cellsE (eL (k+1))=cellsE (eL k)++cellsE (dL k):=by rw[eE,cellsE_app]
  have ec2:(eL (k+1)).length=(eL k).length+(dL k).length:=by rw[eE,List.length_append]
  conv=>arg 5;whnf
  refine wp_br (fun h2=>?_) (fun h2=>?_)
  ·skip
   rw[if_pos (show pL k=true from h2)] at eN
   conv=>arg 5;whnf
   refine wp_must ⟨by show -9223372036854775808≤nL k+1;omega,by show nL k+1≤9223372036854775807;omega⟩ ?_
   conv=>arg 5;whnf
   refine⟨cellsE (dL k),by rw[cellsE_length],cellsE_one _,fun β ρ w' hM' ad had j u hu=>?_,?_⟩
   ·have h4:=hM'.at_ (show rowF (pt ea (dL k).length) (cellsE (dL k))∈((⟨y',x',ea,ec⟩:Sa).fs ⟨tL (k+1),sL (k+1),dL k,pL k⟩++(rowF (pt none 0) (cellsL [])::(y.fs (tL k)++sgF x (sL k)))) from List.mem_append_left _ (.head _))
    subst had
    rw[pt_pos (k:=0) (by have:=(List.getElem?_eq_some_iff.1 hu).1;rw[cellsE_length] at this;omega)] at h4
    exact h4.cell hu
   conv=>arg 5;whnf
   refine wp_must ⟨by show (eL k).length+(dL k).length≤maxLen;unfold maxLen;omega,by show ((eL k).length+(dL k).length)*72≤140737488355328;omega,fun h=>he'.2.2 h⟩ ?_
   conv=>arg 5;whnf
   refine wp_must ⟨by show -9223372036854775808≤(k:Int)+1;omega,by show (k:Int)+1≤9223372036854775807;omega⟩ ?_
   conv=>arg 5;whnf
   refine wp_end ⟨(k+1,y',x'),⟨hlt,hy',hx'⟩,⟨by repeat' first|exact trivial|refine⟨.inl rfl,?_⟩|refine⟨.inr rfl,?_⟩|refine⟨.inr (congrArg (fun z:Int=>Sx.T.v (Value.int .i64 z)) eN.symm),?_⟩,⟨by repeat' first|exact trivial|refine⟨.inl rfl,?_⟩|refine⟨.inr rfl,?_⟩|refine⟨.inr (congrArg (fun z:Int=>Sx.T.v (Value.int .i64 z)) eN.symm),?_⟩,by rw[ec1,ec2];repeat' first|exact trivial|refine⟨.inl rfl,?_⟩|refine⟨.inr rfl,?_⟩|refine⟨.inr (congrArg (fun z:Int=>Sx.T.v (Value.int .i64 z)) eN.symm),?_⟩,fun φ h=>(show φ∈((⟨y',x',ea,ec⟩:Sa).fs ⟨tL (k+1),sL (k+1),dL k,pL k⟩++(rowF (pt none 0) (cellsL [])::(y.fs (tL k)++sgF x (sL k)))) from (List.mem_cons.1 h).elim (fun e=>e▸List.mem_append_right _ (.head _)) fun h=>List.mem_append_left _ (.tail _ h))⟩,rfl⟩,by show 6 - (k+1)<6 - k;omega⟩
  ·skip
   rw[if_neg (show ¬ pL k=true by rw[show pL k=false from h2];simp),Int.add_zero] at eN
   conv=>arg 5;whnf
   refine⟨cellsE (dL k),by rw[cellsE_length],cellsE_one _,fun β ρ w' hM' ad had j u hu=>?_,?_⟩
   ·have h4:=hM'.at_ (show rowF (pt ea (dL k).length) (cellsE (dL k))∈((⟨y',x',ea,ec⟩:Sa).fs ⟨tL (k+1),sL (k+1),dL k,pL k⟩++(rowF (pt none 0) (cellsL [])::(y.fs (tL k)++sgF x (sL k)))) from List.mem_append_left _ (.head _))
    subst had
    rw[pt_pos (k:=0) (by have:=(List.getElem?_eq_some_iff.1 hu).1;rw[cellsE_length] at this;omega)] at h4
    exact h4.cell hu
   conv=>arg 5;whnf
   refine wp_must ⟨by show (eL k).length+(dL k).length≤maxLen;unfold maxLen;omega,by show ((eL k).length+(dL k).length)*72≤140737488355328;omega,fun h=>he'.2.2 h⟩ ?_
   conv=>arg 5;whnf
   refine wp_must ⟨by show -9223372036854775808≤(k:Int)+1;omega,by show (k:Int)+1≤9223372036854775807;omega⟩ ?_
   conv=>arg 5;whnf
   refine wp_end ⟨(k+1,y',x'),⟨hlt,hy',hx'⟩,⟨by repeat' first|exact trivial|refine⟨.inl rfl,?_⟩|refine⟨.inr rfl,?_⟩|refine⟨.inr (congrArg (fun z:Int=>Sx.T.v (Value.int .i64 z)) eN.symm),?_⟩,⟨by repeat' first|exact trivial|refine⟨.inl rfl,?_⟩|refine⟨.inr rfl,?_⟩|refine⟨.inr (congrArg (fun z:Int=>Sx.T.v (Value.int .i64 z)) eN.symm),?_⟩,by rw[ec1,ec2];repeat' first|exact trivial|refine⟨.inl rfl,?_⟩|refine⟨.inr rfl,?_⟩|refine⟨.inr (congrArg (fun z:Int=>Sx.T.v (Value.int .i64 z)) eN.symm),?_⟩,fun φ h=>(show φ∈((⟨y',x',ea,ec⟩:Sa).fs ⟨tL (k+1),sL (k+1),dL k,pL k⟩++(rowF (pt none 0) (cellsL [])::(y.fs (tL k)++sgF x (sL k)))) from (List.mem_cons.1 h).elim (fun e=>e▸List.mem_append_right _ (.head _)) fun h=>List.mem_append_left _ (.tail _ h))⟩,rfl⟩,by show 6 - (k+1)<6 - k;omega⟩
 ·have hk6:k=6:=by have h3:=of_decide_eq_false (show decide ((k:Int)<6)=false from h1);omega
  subst hk6
  obtain⟨la,lc,sa,sc,S⟩:=x
  obtain⟨q,hqS⟩:∃q,S=[q]:=by
   have h2:S.map shdP=[([(1,0,[pool.T1])],1)]:=hx.2.2.2
   have h9:=congrArg List.length h2
   cases S with
   |nil=>simp at h9
   |cons q S=>cases S with
    |nil=>exact⟨q,rfl⟩
    |cons q2 S=>simp at h9
  subst hqS
  have hq : [shdP q]=[([(1,0,[pool.T1])],1)]:=hx.2.2.2
  obtain⟨qa,qn,qc,qL,qv⟩:=q
  have hq:shdP ⟨qa,qn,qc,qL,qv⟩=([(1,0,[pool.T1])],1):=(List.cons.inj hq).1
  have e1:qL.map acP=[(1,0,[pool.T1])]:=congrArg Prod.fst hq
  have e2:qv=1:=congrArg Prod.snd hq
  subst e2
  have hql:qn=1:=((hx.2.2.1 ⟨qa,qn,qc,qL,1⟩ (.head _)).2.1:qn=qL.length).trans (by have:=congrArg List.length e1;simpa using this)
  subst hql
  have hsl:Sl sa 1 sc:=hx.2.1
  conv=>arg 5;whnf
  refine wp_both ?_ (wp_both ?_ ?_)
  ·skip
   conv=>arg 5;whnf
   refine meetc (f:=13) (v:=tkV (newT XO) y0) rfl (by kernel_rfl) (fun β ρ w' hM'=>new_any w') ?_
   conv=>arg 5;whnf
   refine wp_both ?_ (wp_both ?_ ?_)
   ·skip
    conv=>arg 5;whnf
    refine meetSt (f:=16) ⟨⟨XO,6,0,failL 0,⟨2,tx0,[],0⟩,true⟩,sL 6,[],true⟩ [] (by simp) rfl (by kernel_rfl) (fun β ρ w' hM'=>step_at stepX y0 (⟨la,lc,sa,sc,[⟨qa,1,qc,qL,1⟩]⟩:Sn) w' (hM.later hM'.below) (y0_ok XO) (y0_fs XO) hx (fun φ hφ g hg=>(hM'.fact φ (show φ∈(rowF (pt none 0) (cellsL [])::(y.fs (tL 6)++sgF (⟨la,lc,sa,sc,[⟨qa,1,qc,qL,1⟩]⟩:Sn) (sL 6))) from .tail _ (List.mem_append_right _ hφ)) g hg).2) (mayL 6 (by decide)) szX) (fun a ha hnew=>?_)
    obtain⟨y2,x2,e2a,e2c⟩:=a
    conv=>arg 5;whnf
    refine wp_both ?_ ?_
    ·skip
     conv=>arg 5;whnf
     refine wp_must ⟨by decide,by show (0:Int)<((1:Nat):Int);decide,hsl.some (show 0<1 by decide)⟩ ?_
     conv=>arg 5;whnf
     refine readF (sz:=2) (k:=0) (f:=0) (.slice qa 1 qc) rfl (show rowF (pt sa 1) (cellsS [⟨qa,1,qc,qL,1⟩])∈(⟨y2,x2,e2a,e2c⟩:Sa).fs ⟨⟨XO,6,0,failL 0,⟨2,tx0,[],0⟩,true⟩,sL 6,[],true⟩++(rowF (pt none 0) (cellsL [])::(y.fs (tL 6)++sgF (⟨la,lc,sa,sc,[⟨qa,1,qc,qL,1⟩]⟩:Sn) (sL 6))) from List.mem_append_right _ (.tail _ (List.mem_append_right _ (.tail _ (.head _))))) (show 0<1 by decide) (hsl.some (show 0<1 by decide)) rfl rfl ?_
     conv=>arg 5;whnf
     refine wp_must ⟨by decide,by show (0:Int)<((1:Nat):Int);decide,hsl.some (show 0<1 by decide)⟩ ?_
     conv=>arg 5;whnf
     refine readF (sz:=2) (k:=0) (f:=1) (.int .i64 1) rfl (show rowF (pt sa 1) (cellsS [⟨qa,1,qc,qL,1⟩])∈(⟨y2,x2,e2a,e2c⟩:Sa).fs ⟨⟨XO,6,0,failL 0,⟨2,tx0,[],0⟩,true⟩,sL 6,[],true⟩++(rowF (pt none 0) (cellsL [])::(y.fs (tL 6)++sgF (⟨la,lc,sa,sc,[⟨qa,1,qc,qL,1⟩]⟩:Sn) (sL 6))) from List.mem_append_right _ (.tail _ (List.mem_append_right _ (.tail _ (.head _))))) (show 0<1 by decide) (hsl.some (show 0<1 by decide)) rfl rfl ?_
     conv=>arg 5;whnf
     refine meetc (f:=15) (v:=.bool false) rfl (by kernel_rfl) (fun β ρ w' hM'=>able_at able6 (mayL 6 (by decide)) y (⟨la,lc,sa,sc,[⟨qa,1,qc,qL,1⟩]⟩:Sn) w' (hM.later hM'.below) hx (fun φ hφ g hg=>(hM'.fact φ (show φ∈(⟨y2,x2,e2a,e2c⟩:Sa).fs ⟨⟨XO,6,0,failL 0,⟨2,tx0,[],0⟩,true⟩,sL 6,[],true⟩++(rowF (pt none 0) (cellsL [])::(y.fs (tL 6)++sgF (⟨la,lc,sa,sc,[⟨qa,1,qc,qL,1⟩]⟩:Sn) (sL 6))) from List.mem_append_right _ (.tail _ (List.mem_append_right _ hφ))) g hg).2)) ?_
     conv=>arg 5;whnf
     refine meetc (f:=30) (v:=.bool true) rfl (by kernel_rfl) (fun β ρ w' hM'=>may6 (⟨la,lc,sa,sc,[⟨qa,1,qc,qL,1⟩]⟩:Sn) w' (hM.later hM'.below) (sgs_of hM' hx (fun φ hφ=>(show φ∈(⟨y2,x2,e2a,e2c⟩:Sa).fs ⟨⟨XO,6,0,failL 0,⟨2,tx0,[],0⟩,true⟩,sL 6,[],true⟩++(rowF (pt none 0) (cellsL [])::(y.fs (tL 6)++sgF (⟨la,lc,sa,sc,[⟨qa,1,qc,qL,1⟩]⟩:Sn) (sL 6))) from List.mem_append_right _ (.tail _ (List.mem_append_right _ hφ))))) (fun q hq=>by rw[List.mem_singleton] at hq;subst hq;show 1≤1000000;decide)) ?_
     conv=>arg 5;whnf
     exact wp_back fun β ρ w' hM'=>⟨rfl,hM'.below⟩
    ·skip
     conv=>arg 5;whnf
     refine wp_must ⟨by decide,by show (0:Int)<((1:Nat):Int);decide,hsl.some (show 0<1 by decide)⟩ ?_
     conv=>arg 5;whnf
     refine readF (sz:=2) (k:=0) (f:=0) (.slice qa 1 qc) rfl (show rowF (pt sa 1) (cellsS [⟨qa,1,qc,qL,1⟩])∈(⟨y2,x2,e2a,e2c⟩:Sa).fs ⟨⟨XO,6,0,failL 0,⟨2,tx0,[],0⟩,true⟩,sL 6,[],true⟩++(rowF (pt none 0) (cellsL [])::(y.fs (tL 6)++sgF (⟨la,lc,sa,sc,[⟨qa,1,qc,qL,1⟩]⟩:Sn) (sL 6))) from List.mem_append_right _ (.tail _ (List.mem_append_right _ (.tail _ (.head _))))) (show 0<1 by decide) (hsl.some (show 0<1 by decide)) rfl rfl ?_
     conv=>arg 5;whnf
     refine wp_must ⟨by decide,by show (0:Int)<((1:Nat):Int);decide,hsl.some (show 0<1 by decide)⟩ ?_
     conv=>arg 5;whnf
     refine readF (sz:=2) (k:=0) (f:=1) (.int .i64 1) rfl (show rowF (pt sa 1) (cellsS [⟨qa,1,qc,qL,1⟩])∈(⟨y2,x2,e2a,e2c⟩:Sa).fs ⟨⟨XO,6,0,failL 0,⟨2,tx0,[],0⟩,true⟩,sL 6,[],true⟩++(rowF (pt none 0) (cellsL [])::(y.fs (tL 6)++sgF (⟨la,lc,sa,sc,[⟨qa,1,qc,qL,1⟩]⟩:Sn) (sL 6))) from List.mem_append_right _ (.tail _ (List.mem_append_right _ (.tail _ (.head _))))) (show 0<1 by decide) (hsl.some (show 0<1 by decide)) rfl rfl ?_
     conv=>arg 5;whnf
     refine meetc (f:=15) (v:=.bool false) rfl (by kernel_rfl) (fun β ρ w' hM'=>able_at able6 (mayL 6 (by decide)) y (⟨la,lc,sa,sc,[⟨qa,1,qc,qL,1⟩]⟩:Sn) w' (hM.later hM'.below) hx (fun φ hφ g hg=>(hM'.fact φ (show φ∈(⟨y2,x2,e2a,e2c⟩:Sa).fs ⟨⟨XO,6,0,failL 0,⟨2,tx0,[],0⟩,true⟩,sL 6,[],true⟩++(rowF (pt none 0) (cellsL [])::(y.fs (tL 6)++sgF (⟨la,lc,sa,sc,[⟨qa,1,qc,qL,1⟩]⟩:Sn) (sL 6))) from List.mem_append_right _ (.tail _ (List.mem_append_right _ hφ))) g hg).2)) ?_
     conv=>arg 5;whnf
     refine meetc (f:=30) (v:=.bool true) rfl (by kernel_rfl) (fun β ρ w' hM'=>may6 (⟨la,lc,sa,sc,[⟨qa,1,qc,qL,1⟩]⟩:Sn) w' (hM.later hM'.below) (sgs_of hM' hx (fun φ hφ=>(show φ∈(⟨y2,x2,e2a,e2c⟩:Sa).fs ⟨⟨XO,6,0,failL 0,⟨2,tx0,[],0⟩,true⟩,sL 6,[],true⟩++(rowF (pt none 0) (cellsL [])::(y.fs (tL 6)++sgF (⟨la,lc,sa,sc,[⟨qa,1,qc,qL,1⟩]⟩:Sn) (sL 6))) from List.mem_append_right _ (.tail _ (List.mem_append_right _ hφ))))) (fun q hq=>by rw[List.mem_singleton] at hq;subst hq;show 1≤1000000;decide)) ?_
     conv=>arg 5;whnf
     exact wp_back fun β ρ w' hM'=>⟨rfl,hM'.below⟩
   ·skip
    conv=>arg 5;whnf
    refine wp_both ?_ ?_
    ·skip
     conv=>arg 5;whnf
     refine meetSt (f:=16) ⟨⟨XO,6,0,failL 0,⟨2,tx0,[],0⟩,true⟩,sL 6,[],true⟩ [] (by simp) rfl (by kernel_rfl) (fun β ρ w' hM'=>step_at stepX y0 (⟨la,lc,sa,sc,[⟨qa,1,qc,qL,1⟩]⟩:Sn) w' (hM.later hM'.below) (y0_ok XO) (y0_fs XO) hx (fun φ hφ g hg=>(hM'.fact φ (show φ∈(rowF (pt none 0) (cellsL [])::(y.fs (tL 6)++sgF (⟨la,lc,sa,sc,[⟨qa,1,qc,qL,1⟩]⟩:Sn) (sL 6))) from .tail _ (List.mem_append_right _ hφ)) g hg).2) (mayL 6 (by decide)) szX) (fun a ha hnew=>?_)
     obtain⟨y2,x2,e2a,e2c⟩:=a
     conv=>arg 5;whnf
     refine wp_must ⟨by decide,by show (0:Int)<((1:Nat):Int);decide,hsl.some (show 0<1 by decide)⟩ ?_
     conv=>arg 5;whnf
     refine readF (sz:=2) (k:=0) (f:=0) (.slice qa 1 qc) rfl (show rowF (pt sa 1) (cellsS [⟨qa,1,qc,qL,1⟩])∈(⟨y2,x2,e2a,e2c⟩:Sa).fs ⟨⟨XO,6,0,failL 0,⟨2,tx0,[],0⟩,true⟩,sL 6,[],true⟩++(rowF (pt none 0) (cellsL [])::(y.fs (tL 6)++sgF (⟨la,lc,sa,sc,[⟨qa,1,qc,qL,1⟩]⟩:Sn) (sL 6))) from List.mem_append_right _ (.tail _ (List.mem_append_right _ (.tail _ (.head _))))) (show 0<1 by decide) (hsl.some (show 0<1 by decide)) rfl rfl ?_
     conv=>arg 5;whnf
     refine wp_must ⟨by decide,by show (0:Int)<((1:Nat):Int);decide,hsl.some (show 0<1 by decide)⟩ ?_
     conv=>arg 5;whnf
     refine readF (sz:=2) (k:=0) (f:=1) (.int .i64 1) rfl (show rowF (pt sa 1) (cellsS [⟨qa,1,qc,qL,1⟩])∈(⟨y2,x2,e2a,e2c⟩:Sa).fs ⟨⟨XO,6,0,failL 0,⟨2,tx0,[],0⟩,true⟩,sL 6,[],true⟩++(rowF (pt none 0) (cellsL [])::(y.fs (tL 6)++sgF (⟨la,lc,sa,sc,[⟨qa,1,qc,qL,1⟩]⟩:Sn) (sL 6))) from List.mem_append_right _ (.tail _ (List.mem_append_right _ (.tail _ (.head _))))) (show 0<1 by decide) (hsl.some (show 0<1 by decide)) rfl rfl ?_
     conv=>arg 5;whnf
     refine meetc (f:=15) (v:=.bool false) rfl (by kernel_rfl) (fun β ρ w' hM'=>able_at able6 (mayL 6 (by decide)) y (⟨la,lc,sa,sc,[⟨qa,1,qc,qL,1⟩]⟩:Sn) w' (hM.later hM'.below) hx (fun φ hφ g hg=>(hM'.fact φ (show φ∈(⟨y2,x2,e2a,e2c⟩:Sa).fs ⟨⟨XO,6,0,failL 0,⟨2,tx0,[],0⟩,true⟩,sL 6,[],true⟩++(rowF (pt none 0) (cellsL [])::(y.fs (tL 6)++sgF (⟨la,lc,sa,sc,[⟨qa,1,qc,qL,1⟩]⟩:Sn) (sL 6))) from List.mem_append_right _ (.tail _ (List.mem_append_right _ hφ))) g hg).2)) ?_
     conv=>arg 5;whnf
     refine meetc (f:=30) (v:=.bool true) rfl (by kernel_rfl) (fun β ρ w' hM'=>may6 (⟨la,lc,sa,sc,[⟨qa,1,qc,qL,1⟩]⟩:Sn) w' (hM.later hM'.below) (sgs_of hM' hx (fun φ hφ=>(show φ∈(⟨y2,x2,e2a,e2c⟩:Sa).fs ⟨⟨XO,6,0,failL 0,⟨2,tx0,[],0⟩,true⟩,sL 6,[],true⟩++(rowF (pt none 0) (cellsL [])::(y.fs (tL 6)++sgF (⟨la,lc,sa,sc,[⟨qa,1,qc,qL,1⟩]⟩:Sn) (sL 6))) from List.mem_append_right _ (.tail _ (List.mem_append_right _ hφ))))) (fun q hq=>by rw[List.mem_singleton] at hq;subst hq;show 1≤1000000;decide)) ?_
     conv=>arg 5;whnf
     exact wp_back fun β ρ w' hM'=>⟨rfl,hM'.below⟩
    ·skip
     conv=>arg 5;whnf
     refine meetSt (f:=16) ⟨⟨XO,6,0,failL 0,⟨2,tx0,[],0⟩,true⟩,sL 6,[],true⟩ [] (by simp) rfl (by kernel_rfl) (fun β ρ w' hM'=>step_at stepX y0 (⟨la,lc,sa,sc,[⟨qa,1,qc,qL,1⟩]⟩:Sn) w' (hM.later hM'.below) (y0_ok XO) (y0_fs XO) hx (fun φ hφ g hg=>(hM'.fact φ (show φ∈(rowF (pt none 0) (cellsL [])::(y.fs (tL 6)++sgF (⟨la,lc,sa,sc,[⟨qa,1,qc,qL,1⟩]⟩:Sn) (sL 6))) from .tail _ (List.mem_append_right _ hφ)) g hg).2) (mayL 6 (by decide)) szX) (fun a ha hnew=>?_)
     obtain⟨y2,x2,e2a,e2c⟩:=a
     conv=>arg 5;whnf
     refine wp_must ⟨by decide,by show (0:Int)<((1:Nat):Int);decide,hsl.some (show 0<1 by decide)⟩ ?_
     conv=>arg 5;whnf
     refine readF (sz:=2) (k:=0) (f:=0) (.slice qa 1 qc) rfl (show rowF (pt sa 1) (cellsS [⟨qa,1,qc,qL,1⟩])∈(⟨y2,x2,e2a,e2c⟩:Sa).fs ⟨⟨XO,6,0,failL 0,⟨2,tx0,[],0⟩,true⟩,sL 6,[],true⟩++(rowF (pt none 0) (cellsL [])::(y.fs (tL 6)++sgF (⟨la,lc,sa,sc,[⟨qa,1,qc,qL,1⟩]⟩:Sn) (sL 6))) from List.mem_append_right _ (.tail _ (List.mem_append_right _ (.tail _ (.head _))))) (show 0<1 by decide) (hsl.some (show 0<1 by decide)) rfl rfl ?_
     conv=>arg 5;whnf
     refine wp_must ⟨by decide,by show (0:Int)<((1:Nat):Int);decide,hsl.some (show 0<1 by decide)⟩ ?_
     conv=>arg 5;whnf
     refine readF (sz:=2) (k:=0) (f:=1) (.int .i64 1) rfl (show rowF (pt sa 1) (cellsS [⟨qa,1,qc,qL,1⟩])∈(⟨y2,x2,e2a,e2c⟩:Sa).fs ⟨⟨XO,6,0,failL 0,⟨2,tx0,[],0⟩,true⟩,sL 6,[],true⟩++(rowF (pt none 0) (cellsL [])::(y.fs (tL 6)++sgF (⟨la,lc,sa,sc,[⟨qa,1,qc,qL,1⟩]⟩:Sn) (sL 6))) from List.mem_append_right _ (.tail _ (List.mem_append_right _ (.tail _ (.head _))))) (show 0<1 by decide) (hsl.some (show 0<1 by decide)) rfl rfl ?_
     conv=>arg 5;whnf
     refine meetc (f:=15) (v:=.bool false) rfl (by kernel_rfl) (fun β ρ w' hM'=>able_at able6 (mayL 6 (by decide)) y (⟨la,lc,sa,sc,[⟨qa,1,qc,qL,1⟩]⟩:Sn) w' (hM.later hM'.below) hx (fun φ hφ g hg=>(hM'.fact φ (show φ∈(⟨y2,x2,e2a,e2c⟩:Sa).fs ⟨⟨XO,6,0,failL 0,⟨2,tx0,[],0⟩,true⟩,sL 6,[],true⟩++(rowF (pt none 0) (cellsL [])::(y.fs (tL 6)++sgF (⟨la,lc,sa,sc,[⟨qa,1,qc,qL,1⟩]⟩:Sn) (sL 6))) from List.mem_append_right _ (.tail _ (List.mem_append_right _ hφ))) g hg).2)) ?_
     conv=>arg 5;whnf
     refine meetc (f:=30) (v:=.bool true) rfl (by kernel_rfl) (fun β ρ w' hM'=>may6 (⟨la,lc,sa,sc,[⟨qa,1,qc,qL,1⟩]⟩:Sn) w' (hM.later hM'.below) (sgs_of hM' hx (fun φ hφ=>(show φ∈(⟨y2,x2,e2a,e2c⟩:Sa).fs ⟨⟨XO,6,0,failL 0,⟨2,tx0,[],0⟩,true⟩,sL 6,[],true⟩++(rowF (pt none 0) (cellsL [])::(y.fs (tL 6)++sgF (⟨la,lc,sa,sc,[⟨qa,1,qc,qL,1⟩]⟩:Sn) (sL 6))) from List.mem_append_right _ (.tail _ (List.mem_append_right _ hφ))))) (fun q hq=>by rw[List.mem_singleton] at hq;subst hq;show 1≤1000000;decide)) ?_
     conv=>arg 5;whnf
     exact wp_back fun β ρ w' hM'=>⟨rfl,hM'.below⟩
   ·skip
    conv=>arg 5;whnf
    refine wp_both ?_ ?_
    ·skip
     conv=>arg 5;whnf
     refine meetSt (f:=16) ⟨⟨XO,6,0,failL 0,⟨2,tx0,[],0⟩,true⟩,sL 6,[],true⟩ [] (by simp) rfl (by kernel_rfl) (fun β ρ w' hM'=>step_at stepX y0 (⟨la,lc,sa,sc,[⟨qa,1,qc,qL,1⟩]⟩:Sn) w' (hM.later hM'.below) (y0_ok XO) (y0_fs XO) hx (fun φ hφ g hg=>(hM'.fact φ (show φ∈(rowF (pt none 0) (cellsL [])::(y.fs (tL 6)++sgF (⟨la,lc,sa,sc,[⟨qa,1,qc,qL,1⟩]⟩:Sn) (sL 6))) from .tail _ (List.mem_append_right _ hφ)) g hg).2) (mayL 6 (by decide)) szX) (fun a ha hnew=>?_)
     obtain⟨y2,x2,e2a,e2c⟩:=a
     conv=>arg 5;whnf
     refine wp_must ⟨by decide,by show (0:Int)<((1:Nat):Int);decide,hsl.some (show 0<1 by decide)⟩ ?_
     conv=>arg 5;whnf
     refine readF (sz:=2) (k:=0) (f:=0) (.slice qa 1 qc) rfl (show rowF (pt sa 1) (cellsS [⟨qa,1,qc,qL,1⟩])∈(⟨y2,x2,e2a,e2c⟩:Sa).fs ⟨⟨XO,6,0,failL 0,⟨2,tx0,[],0⟩,true⟩,sL 6,[],true⟩++(rowF (pt none 0) (cellsL [])::(y.fs (tL 6)++sgF (⟨la,lc,sa,sc,[⟨qa,1,qc,qL,1⟩]⟩:Sn) (sL 6))) from List.mem_append_right _ (.tail _ (List.mem_append_right _ (.tail _ (.head _))))) (show 0<1 by decide) (hsl.some (show 0<1 by decide)) rfl rfl ?_
     conv=>arg 5;whnf
     refine wp_must ⟨by decide,by show (0:Int)<((1:Nat):Int);decide,hsl.some (show 0<1 by decide)⟩ ?_
     conv=>arg 5;whnf
     refine readF (sz:=2) (k:=0) (f:=1) (.int .i64 1) rfl (show rowF (pt sa 1) (cellsS [⟨qa,1,qc,qL,1⟩])∈(⟨y2,x2,e2a,e2c⟩:Sa).fs ⟨⟨XO,6,0,failL 0,⟨2,tx0,[],0⟩,true⟩,sL 6,[],true⟩++(rowF (pt none 0) (cellsL [])::(y.fs (tL 6)++sgF (⟨la,lc,sa,sc,[⟨qa,1,qc,qL,1⟩]⟩:Sn) (sL 6))) from List.mem_append_right _ (.tail _ (List.mem_append_right _ (.tail _ (.head _))))) (show 0<1 by decide) (hsl.some (show 0<1 by decide)) rfl rfl ?_
     conv=>arg 5;whnf
     refine meetc (f:=15) (v:=.bool false) rfl (by kernel_rfl) (fun β ρ w' hM'=>able_at able6 (mayL 6 (by decide)) y (⟨la,lc,sa,sc,[⟨qa,1,qc,qL,1⟩]⟩:Sn) w' (hM.later hM'.below) hx (fun φ hφ g hg=>(hM'.fact φ (show φ∈(⟨y2,x2,e2a,e2c⟩:Sa).fs ⟨⟨XO,6,0,failL 0,⟨2,tx0,[],0⟩,true⟩,sL 6,[],true⟩++(rowF (pt none 0) (cellsL [])::(y.fs (tL 6)++sgF (⟨la,lc,sa,sc,[⟨qa,1,qc,qL,1⟩]⟩:Sn) (sL 6))) from List.mem_append_right _ (.tail _ (List.mem_append_right _ hφ))) g hg).2)) ?_
     conv=>arg 5;whnf
     refine meetc (f:=30) (v:=.bool true) rfl (by kernel_rfl) (fun β ρ w' hM'=>may6 (⟨la,lc,sa,sc,[⟨qa,1,qc,qL,1⟩]⟩:Sn) w' (hM.later hM'.below) (sgs_of hM' hx (fun φ hφ=>(show φ∈(⟨y2,x2,e2a,e2c⟩:Sa).fs ⟨⟨XO,6,0,failL 0,⟨2,tx0,[],0⟩,true⟩,sL 6,[],true⟩++(rowF (pt none 0) (cellsL [])::(y.fs (tL 6)++sgF (⟨la,lc,sa,sc,[⟨qa,1,qc,qL,1⟩]⟩:Sn) (sL 6))) from List.mem_append_right _ (.tail _ (List.mem_append_right _ hφ))))) (fun q hq=>by rw[List.mem_singleton] at hq;subst hq;show 1≤1000000;decide)) ?_
     conv=>arg 5;whnf
     exact wp_back fun β ρ w' hM'=>⟨rfl,hM'.below⟩
    ·skip
     conv=>arg 5;whnf
     refine meetSt (f:=16) ⟨⟨XO,6,0,failL 0,⟨2,tx0,[],0⟩,true⟩,sL 6,[],true⟩ [] (by simp) rfl (by kernel_rfl) (fun β ρ w' hM'=>step_at stepX y0 (⟨la,lc,sa,sc,[⟨qa,1,qc,qL,1⟩]⟩:Sn) w' (hM.later hM'.below) (y0_ok XO) (y0_fs XO) hx (fun φ hφ g hg=>(hM'.fact φ (show φ∈(rowF (pt none 0) (cellsL [])::(y.fs (tL 6)++sgF (⟨la,lc,sa,sc,[⟨qa,1,qc,qL,1⟩]⟩:Sn) (sL 6))) from .tail _ (List.mem_append_right _ hφ)) g hg).2) (mayL 6 (by decide)) szX) (fun a ha hnew=>?_)
     obtain⟨y2,x2,e2a,e2c⟩:=a
     conv=>arg 5;whnf
     refine wp_must ⟨by decide,by show (0:Int)<((1:Nat):Int);decide,hsl.some (show 0<1 by decide)⟩ ?_
     conv=>arg 5;whnf
     refine readF (sz:=2) (k:=0) (f:=0) (.slice qa 1 qc) rfl (show rowF (pt sa 1) (cellsS [⟨qa,1,qc,qL,1⟩])∈(⟨y2,x2,e2a,e2c⟩:Sa).fs ⟨⟨XO,6,0,failL 0,⟨2,tx0,[],0⟩,true⟩,sL 6,[],true⟩++(rowF (pt none 0) (cellsL [])::(y.fs (tL 6)++sgF (⟨la,lc,sa,sc,[⟨qa,1,qc,qL,1⟩]⟩:Sn) (sL 6))) from List.mem_append_right _ (.tail _ (List.mem_append_right _ (.tail _ (.head _))))) (show 0<1 by decide) (hsl.some (show 0<1 by decide)) rfl rfl ?_
     conv=>arg 5;whnf
     refine wp_must ⟨by decide,by show (0:Int)<((1:Nat):Int);decide,hsl.some (show 0<1 by decide)⟩ ?_
     conv=>arg 5;whnf
     refine readF (sz:=2) (k:=0) (f:=1) (.int .i64 1) rfl (show rowF (pt sa 1) (cellsS [⟨qa,1,qc,qL,1⟩])∈(⟨y2,x2,e2a,e2c⟩:Sa).fs ⟨⟨XO,6,0,failL 0,⟨2,tx0,[],0⟩,true⟩,sL 6,[],true⟩++(rowF (pt none 0) (cellsL [])::(y.fs (tL 6)++sgF (⟨la,lc,sa,sc,[⟨qa,1,qc,qL,1⟩]⟩:Sn) (sL 6))) from List.mem_append_right _ (.tail _ (List.mem_append_right _ (.tail _ (.head _))))) (show 0<1 by decide) (hsl.some (show 0<1 by decide)) rfl rfl ?_
     conv=>arg 5;whnf
     refine meetc (f:=15) (v:=.bool false) rfl (by kernel_rfl) (fun β ρ w' hM'=>able_at able6 (mayL 6 (by decide)) y (⟨la,lc,sa,sc,[⟨qa,1,qc,qL,1⟩]⟩:Sn) w' (hM.later hM'.below) hx (fun φ hφ g hg=>(hM'.fact φ (show φ∈(⟨y2,x2,e2a,e2c⟩:Sa).fs ⟨⟨XO,6,0,failL 0,⟨2,tx0,[],0⟩,true⟩,sL 6,[],true⟩++(rowF (pt none 0) (cellsL [])::(y.fs (tL 6)++sgF (⟨la,lc,sa,sc,[⟨qa,1,qc,qL,1⟩]⟩:Sn) (sL 6))) from List.mem_append_right _ (.tail _ (List.mem_append_right _ hφ))) g hg).2)) ?_
     conv=>arg 5;whnf
     refine meetc (f:=30) (v:=.bool true) rfl (by kernel_rfl) (fun β ρ w' hM'=>may6 (⟨la,lc,sa,sc,[⟨qa,1,qc,qL,1⟩]⟩:Sn) w' (hM.later hM'.below) (sgs_of hM' hx (fun φ hφ=>(show φ∈(⟨y2,x2,e2a,e2c⟩:Sa).fs ⟨⟨XO,6,0,failL 0,⟨2,tx0,[],0⟩,true⟩,sL 6,[],true⟩++(rowF (pt none 0) (cellsL [])::(y.fs (tL 6)++sgF (⟨la,lc,sa,sc,[⟨qa,1,qc,qL,1⟩]⟩:Sn) (sL 6))) from List.mem_append_right _ (.tail _ (List.mem_append_right _ hφ))))) (fun q hq=>by rw[List.mem_singleton] at hq;subst hq;show 1≤1000000;decide)) ?_
     conv=>arg 5;whnf
     exact wp_back fun β ρ w' hM'=>⟨rfl,hM'.below⟩
  ·skip
   conv=>arg 5;whnf
   refine wp_both ?_ ?_
   ·skip
    conv=>arg 5;whnf
    refine meetc (f:=13) (v:=tkV (newT XO) y0) rfl (by kernel_rfl) (fun β ρ w' hM'=>new_any w') ?_
    conv=>arg 5;whnf
    refine wp_both ?_ ?_
    ·skip
     conv=>arg 5;whnf
     refine meetSt (f:=16) ⟨⟨XO,6,0,failL 0,⟨2,tx0,[],0⟩,true⟩,sL 6,[],true⟩ [] (by simp) rfl (by kernel_rfl) (fun β ρ w' hM'=>step_at stepX y0 (⟨la,lc,sa,sc,[⟨qa,1,qc,qL,1⟩]⟩:Sn) w' (hM.later hM'.below) (y0_ok XO) (y0_fs XO) hx (fun φ hφ g hg=>(hM'.fact φ (show φ∈(rowF (pt none 0) (cellsL [])::(y.fs (tL 6)++sgF (⟨la,lc,sa,sc,[⟨qa,1,qc,qL,1⟩]⟩:Sn) (sL 6))) from .tail _ (List.mem_append_right _ hφ)) g hg).2) (mayL 6 (by decide)) szX) (fun a ha hnew=>?_)
     obtain⟨y2,x2,e2a,e2c⟩:=a
     conv=>arg 5;whnf
     refine wp_must ⟨by decide,by show (0:Int)<((1:Nat):Int);decide,hsl.some (show 0<1 by decide)⟩ ?_
     conv=>arg 5;whnf
     refine readF (sz:=2) (k:=0) (f:=0) (.slice qa 1 qc) rfl (show rowF (pt sa 1) (cellsS [⟨qa,1,qc,qL,1⟩])∈(⟨y2,x2,e2a,e2c⟩:Sa).fs ⟨⟨XO,6,0,failL 0,⟨2,tx0,[],0⟩,true⟩,sL 6,[],true⟩++(rowF (pt none 0) (cellsL [])::(y.fs (tL 6)++sgF (⟨la,lc,sa,sc,[⟨qa,1,qc,qL,1⟩]⟩:Sn) (sL 6))) from List.mem_append_right _ (.tail _ (List.mem_append_right _ (.tail _ (.head _))))) (show 0<1 by decide) (hsl.some (show 0<1 by decide)) rfl rfl ?_
     conv=>arg 5;whnf
     refine wp_must ⟨by decide,by show (0:Int)<((1:Nat):Int);decide,hsl.some (show 0<1 by decide)⟩ ?_
     conv=>arg 5;whnf
     refine readF (sz:=2) (k:=0) (f:=1) (.int .i64 1) rfl (show rowF (pt sa 1) (cellsS [⟨qa,1,qc,qL,1⟩])∈(⟨y2,x2,e2a,e2c⟩:Sa).fs ⟨⟨XO,6,0,failL 0,⟨2,tx0,[],0⟩,true⟩,sL 6,[],true⟩++(rowF (pt none 0) (cellsL [])::(y.fs (tL 6)++sgF (⟨la,lc,sa,sc,[⟨qa,1,qc,qL,1⟩]⟩:Sn) (sL 6))) from List.mem_append_right _ (.tail _ (List.mem_append_right _ (.tail _ (.head _))))) (show 0<1 by decide) (hsl.some (show 0<1 by decide)) rfl rfl ?_
     conv=>arg 5;whnf
     refine meetc (f:=15) (v:=.bool false) rfl (by kernel_rfl) (fun β ρ w' hM'=>able_at able6 (mayL 6 (by decide)) y (⟨la,lc,sa,sc,[⟨qa,1,qc,qL,1⟩]⟩:Sn) w' (hM.later hM'.below) hx (fun φ hφ g hg=>(hM'.fact φ (show φ∈(⟨y2,x2,e2a,e2c⟩:Sa).fs ⟨⟨XO,6,0,failL 0,⟨2,tx0,[],0⟩,true⟩,sL 6,[],true⟩++(rowF (pt none 0) (cellsL [])::(y.fs (tL 6)++sgF (⟨la,lc,sa,sc,[⟨qa,1,qc,qL,1⟩]⟩:Sn) (sL 6))) from List.mem_append_right _ (.tail _ (List.mem_append_right _ hφ))) g hg).2)) ?_
     conv=>arg 5;whnf
     refine meetc (f:=30) (v:=.bool true) rfl (by kernel_rfl) (fun β ρ w' hM'=>may6 (⟨la,lc,sa,sc,[⟨qa,1,qc,qL,1⟩]⟩:Sn) w' (hM.later hM'.below) (sgs_of hM' hx (fun φ hφ=>(show φ∈(⟨y2,x2,e2a,e2c⟩:Sa).fs ⟨⟨XO,6,0,failL 0,⟨2,tx0,[],0⟩,true⟩,sL 6,[],true⟩++(rowF (pt none 0) (cellsL [])::(y.fs (tL 6)++sgF (⟨la,lc,sa,sc,[⟨qa,1,qc,qL,1⟩]⟩:Sn) (sL 6))) from List.mem_append_right _ (.tail _ (List.mem_append_right _ hφ))))) (fun q hq=>by rw[List.mem_singleton] at hq;subst hq;show 1≤1000000;decide)) ?_
     conv=>arg 5;whnf
     exact wp_back fun β ρ w' hM'=>⟨rfl,hM'.below⟩
    ·skip
     conv=>arg 5;whnf
     refine meetSt (f:=16) ⟨⟨XO,6,0,failL 0,⟨2,tx0,[],0⟩,true⟩,sL 6,[],true⟩ [] (by simp) rfl (by kernel_rfl) (fun β ρ w' hM'=>step_at stepX y0 (⟨la,lc,sa,sc,[⟨qa,1,qc,qL,1⟩]⟩:Sn) w' (hM.later hM'.below) (y0_ok XO) (y0_fs XO) hx (fun φ hφ g hg=>(hM'.fact φ (show φ∈(rowF (pt none 0) (cellsL [])::(y.fs (tL 6)++sgF (⟨la,lc,sa,sc,[⟨qa,1,qc,qL,1⟩]⟩:Sn) (sL 6))) from .tail _ (List.mem_append_right _ hφ)) g hg).2) (mayL 6 (by decide)) szX) (fun a ha hnew=>?_)
     obtain⟨y2,x2,e2a,e2c⟩:=a
     conv=>arg 5;whnf
     refine wp_must ⟨by decide,by show (0:Int)<((1:Nat):Int);decide,hsl.some (show 0<1 by decide)⟩ ?_
     conv=>arg 5;whnf
     refine readF (sz:=2) (k:=0) (f:=0) (.slice qa 1 qc) rfl (show rowF (pt sa 1) (cellsS [⟨qa,1,qc,qL,1⟩])∈(⟨y2,x2,e2a,e2c⟩:Sa).fs ⟨⟨XO,6,0,failL 0,⟨2,tx0,[],0⟩,true⟩,sL 6,[],true⟩++(rowF (pt none 0) (cellsL [])::(y.fs (tL 6)++sgF (⟨la,lc,sa,sc,[⟨qa,1,qc,qL,1⟩]⟩:Sn) (sL 6))) from List.mem_append_right _ (.tail _ (List.mem_append_right _ (.tail _ (.head _))))) (show 0<1 by decide) (hsl.some (show 0<1 by decide)) rfl rfl ?_
     conv=>arg 5;whnf
     refine wp_must ⟨by decide,by show (0:Int)<((1:Nat):Int);decide,hsl.some (show 0<1 by decide)⟩ ?_
     conv=>arg 5;whnf
     refine readF (sz:=2) (k:=0) (f:=1) (.int .i64 1) rfl (show rowF (pt sa 1) (cellsS [⟨qa,1,qc,qL,1⟩])∈(⟨y2,x2,e2a,e2c⟩:Sa).fs ⟨⟨XO,6,0,failL 0,⟨2,tx0,[],0⟩,true⟩,sL 6,[],true⟩++(rowF (pt none 0) (cellsL [])::(y.fs (tL 6)++sgF (⟨la,lc,sa,sc,[⟨qa,1,qc,qL,1⟩]⟩:Sn) (sL 6))) from List.mem_append_right _ (.tail _ (List.mem_append_right _ (.tail _ (.head _))))) (show 0<1 by decide) (hsl.some (show 0<1 by decide)) rfl rfl ?_
     conv=>arg 5;whnf
     refine meetc (f:=15) (v:=.bool false) rfl (by kernel_rfl) (fun β ρ w' hM'=>able_at able6 (mayL 6 (by decide)) y (⟨la,lc,sa,sc,[⟨qa,1,qc,qL,1⟩]⟩:Sn) w' (hM.later hM'.below) hx (fun φ hφ g hg=>(hM'.fact φ (show φ∈(⟨y2,x2,e2a,e2c⟩:Sa).fs ⟨⟨XO,6,0,failL 0,⟨2,tx0,[],0⟩,true⟩,sL 6,[],true⟩++(rowF (pt none 0) (cellsL [])::(y.fs (tL 6)++sgF (⟨la,lc,sa,sc,[⟨qa,1,qc,qL,1⟩]⟩:Sn) (sL 6))) from List.mem_append_right _ (.tail _ (List.mem_append_right _ hφ))) g hg).2)) ?_
     conv=>arg 5;whnf
     refine meetc (f:=30) (v:=.bool true) rfl (by kernel_rfl) (fun β ρ w' hM'=>may6 (⟨la,lc,sa,sc,[⟨qa,1,qc,qL,1⟩]⟩:Sn) w' (hM.later hM'.below) (sgs_of hM' hx (fun φ hφ=>(show φ∈(⟨y2,x2,e2a,e2c⟩:Sa).fs ⟨⟨XO,6,0,failL 0,⟨2,tx0,[],0⟩,true⟩,sL 6,[],true⟩++(rowF (pt none 0) (cellsL [])::(y.fs (tL 6)++sgF (⟨la,lc,sa,sc,[⟨qa,1,qc,qL,1⟩]⟩:Sn) (sL 6))) from List.mem_append_right _ (.tail _ (List.mem_append_right _ hφ))))) (fun q hq=>by rw[List.mem_singleton] at hq;subst hq;show 1≤1000000;decide)) ?_
     conv=>arg 5;whnf
     exact wp_back fun β ρ w' hM'=>⟨rfl,hM'.below⟩
   ·skip
    conv=>arg 5;whnf
    refine meetc (f:=13) (v:=tkV (newT XO) y0) rfl (by kernel_rfl) (fun β ρ w' hM'=>new_any w') ?_
    conv=>arg 5;whnf
    refine meetSt (f:=16) ⟨⟨XO,6,0,failL 0,⟨2,tx0,[],0⟩,true⟩,sL 6,[],true⟩ [] (by simp) rfl (by kernel_rfl) (fun β ρ w' hM'=>step_at stepX y0 (⟨la,lc,sa,sc,[⟨qa,1,qc,qL,1⟩]⟩:Sn) w' (hM.later hM'.below) (y0_ok XO) (y0_fs XO) hx (fun φ hφ g hg=>(hM'.fact φ (show φ∈(rowF (pt none 0) (cellsL [])::(y.fs (tL 6)++sgF (⟨la,lc,sa,sc,[⟨qa,1,qc,qL,1⟩]⟩:Sn) (sL 6))) from .tail _ (List.mem_append_right _ hφ)) g hg).2) (mayL 6 (by decide)) szX) (fun a ha hnew=>?_)
    obtain⟨y2,x2,e2a,e2c⟩:=a
    conv=>arg 5;whnf
    refine wp_must ⟨by decide,by show (0:Int)<((1:Nat):Int);decide,hsl.some (show 0<1 by decide)⟩ ?_
    conv=>arg 5;whnf
    refine readF (sz:=2) (k:=0) (f:=0) (.slice qa 1 qc) rfl (show rowF (pt sa 1) (cellsS [⟨qa,1,qc,qL,1⟩])∈(⟨y2,x2,e2a,e2c⟩:Sa).fs ⟨⟨XO,6,0,failL 0,⟨2,tx0,[],0⟩,true⟩,sL 6,[],true⟩++(rowF (pt none 0) (cellsL [])::(y.fs (tL 6)++sgF (⟨la,lc,sa,sc,[⟨qa,1,qc,qL,1⟩]⟩:Sn) (sL 6))) from List.mem_append_right _ (.tail _ (List.mem_append_right _ (.tail _ (.head _))))) (show 0<1 by decide) (hsl.some (show 0<1 by decide)) rfl rfl ?_
    conv=>arg 5;whnf
    refine wp_must ⟨by decide,by show (0:Int)<((1:Nat):Int);decide,hsl.some (show 0<1 by decide)⟩ ?_
    conv=>arg 5;whnf
    refine readF (sz:=2) (k:=0) (f:=1) (.int .i64 1) rfl (show rowF (pt sa 1) (cellsS [⟨qa,1,qc,qL,1⟩])∈(⟨y2,x2,e2a,e2c⟩:Sa).fs ⟨⟨XO,6,0,failL 0,⟨2,tx0,[],0⟩,true⟩,sL 6,[],true⟩++(rowF (pt none 0) (cellsL [])::(y.fs (tL 6)++sgF (⟨la,lc,sa,sc,[⟨qa,1,qc,qL,1⟩]⟩:Sn) (sL 6))) from List.mem_append_right _ (.tail _ (List.mem_append_right _ (.tail _ (.head _))))) (show 0<1 by decide) (hsl.some (show 0<1 by decide)) rfl rfl ?_
    conv=>arg 5;whnf
    refine meetc (f:=15) (v:=.bool false) rfl (by kernel_rfl) (fun β ρ w' hM'=>able_at able6 (mayL 6 (by decide)) y (⟨la,lc,sa,sc,[⟨qa,1,qc,qL,1⟩]⟩:Sn) w' (hM.later hM'.below) hx (fun φ hφ g hg=>(hM'.fact φ (show φ∈(⟨y2,x2,e2a,e2c⟩:Sa).fs ⟨⟨XO,6,0,failL 0,⟨2,tx0,[],0⟩,true⟩,sL 6,[],true⟩++(rowF (pt none 0) (cellsL [])::(y.fs (tL 6)++sgF (⟨la,lc,sa,sc,[⟨qa,1,qc,qL,1⟩]⟩:Sn) (sL 6))) from List.mem_append_right _ (.tail _ (List.mem_append_right _ hφ))) g hg).2)) ?_
    conv=>arg 5;whnf
    refine meetc (f:=30) (v:=.bool true) rfl (by kernel_rfl) (fun β ρ w' hM'=>may6 (⟨la,lc,sa,sc,[⟨qa,1,qc,qL,1⟩]⟩:Sn) w' (hM.later hM'.below) (sgs_of hM' hx (fun φ hφ=>(show φ∈(⟨y2,x2,e2a,e2c⟩:Sa).fs ⟨⟨XO,6,0,failL 0,⟨2,tx0,[],0⟩,true⟩,sL 6,[],true⟩++(rowF (pt none 0) (cellsL [])::(y.fs (tL 6)++sgF (⟨la,lc,sa,sc,[⟨qa,1,qc,qL,1⟩]⟩:Sn) (sL 6))) from List.mem_append_right _ (.tail _ (List.mem_append_right _ hφ))))) (fun q hq=>by rw[List.mem_singleton] at hq;subst hq;show 1≤1000000;decide)) ?_
    conv=>arg 5;whnf
    exact wp_back fun β ρ w' hM'=>⟨rfl,hM'.below⟩
  ·skip
   conv=>arg 5;whnf
   refine wp_both ?_ ?_
   ·skip
    conv=>arg 5;whnf
    refine meetc (f:=13) (v:=tkV (newT XO) y0) rfl (by kernel_rfl) (fun β ρ w' hM'=>new_any w') ?_
    conv=>arg 5;whnf
    refine wp_both ?_ ?_
    ·skip
     conv=>arg 5;whnf
     refine meetSt (f:=16) ⟨⟨XO,6,0,failL 0,⟨2,tx0,[],0⟩,true⟩,sL 6,[],true⟩ [] (by simp) rfl (by kernel_rfl) (fun β ρ w' hM'=>step_at stepX y0 (⟨la,lc,sa,sc,[⟨qa,1,qc,qL,1⟩]⟩:Sn) w' (hM.later hM'.below) (y0_ok XO) (y0_fs XO) hx (fun φ hφ g hg=>(hM'.fact φ (show φ∈(rowF (pt none 0) (cellsL [])::(y.fs (tL 6)++sgF (⟨la,lc,sa,sc,[⟨qa,1,qc,qL,1⟩]⟩:Sn) (sL 6))) from .tail _ (List.mem_append_right _ hφ)) g hg).2) (mayL 6 (by decide)) szX) (fun a ha hnew=>?_)
     obtain⟨y2,x2,e2a,e2c⟩:=a
     conv=>arg 5;whnf
     refine wp_must ⟨by decide,by show (0:Int)<((1:Nat):Int);decide,hsl.some (show 0<1 by decide)⟩ ?_
     conv=>arg 5;whnf
     refine readF (sz:=2) (k:=0) (f:=0) (.slice qa 1 qc) rfl (show rowF (pt sa 1) (cellsS [⟨qa,1,qc,qL,1⟩])∈(⟨y2,x2,e2a,e2c⟩:Sa).fs ⟨⟨XO,6,0,failL 0,⟨2,tx0,[],0⟩,true⟩,sL 6,[],true⟩++(rowF (pt none 0) (cellsL [])::(y.fs (tL 6)++sgF (⟨la,lc,sa,sc,[⟨qa,1,qc,qL,1⟩]⟩:Sn) (sL 6))) from List.mem_append_right _ (.tail _ (List.mem_append_right _ (.tail _ (.head _))))) (show 0<1 by decide) (hsl.some (show 0<1 by decide)) rfl rfl ?_
     conv=>arg 5;whnf
     refine wp_must ⟨by decide,by show (0:Int)<((1:Nat):Int);decide,hsl.some (show 0<1 by decide)⟩ ?_
     conv=>arg 5;whnf
     refine readF (sz:=2) (k:=0) (f:=1) (.int .i64 1) rfl (show rowF (pt sa 1) (cellsS [⟨qa,1,qc,qL,1⟩])∈(⟨y2,x2,e2a,e2c⟩:Sa).fs ⟨⟨XO,6,0,failL 0,⟨2,tx0,[],0⟩,true⟩,sL 6,[],true⟩++(rowF (pt none 0) (cellsL [])::(y.fs (tL 6)++sgF (⟨la,lc,sa,sc,[⟨qa,1,qc,qL,1⟩]⟩:Sn) (sL 6))) from List.mem_append_right _ (.tail _ (List.mem_append_right _ (.tail _ (.head _))))) (show 0<1 by decide) (hsl.some (show 0<1 by decide)) rfl rfl ?_
     conv=>arg 5;whnf
     refine meetc (f:=15) (v:=.bool false) rfl (by kernel_rfl) (fun β ρ w' hM'=>able_at able6 (mayL 6 (by decide)) y (⟨la,lc,sa,sc,[⟨qa,1,qc,qL,1⟩]⟩:Sn) w' (hM.later hM'.below) hx (fun φ hφ g hg=>(hM'.fact φ (show φ∈(⟨y2,x2,e2a,e2c⟩:Sa).fs ⟨⟨XO,6,0,failL 0,⟨2,tx0,[],0⟩,true⟩,sL 6,[],true⟩++(rowF (pt none 0) (cellsL [])::(y.fs (tL 6)++sgF (⟨la,lc,sa,sc,[⟨qa,1,qc,qL,1⟩]⟩:Sn) (sL 6))) from List.mem_append_right _ (.tail _ (List.mem_append_right _ hφ))) g hg).2)) ?_
     conv=>arg 5;whnf
     refine meetc (f:=30) (v:=.bool true) rfl (by kernel_rfl) (fun β ρ w' hM'=>may6 (⟨la,lc,sa,sc,[⟨qa,1,qc,qL,1⟩]⟩:Sn) w' (hM.later hM'.below) (sgs_of hM' hx (fun φ hφ=>(show φ∈(⟨y2,x2,e2a,e2c⟩:Sa).fs ⟨⟨XO,6,0,failL 0,⟨2,tx0,[],0⟩,true⟩,sL 6,[],true⟩++(rowF (pt none 0) (cellsL [])::(y.fs (tL 6)++sgF (⟨la,lc,sa,sc,[⟨qa,1,qc,qL,1⟩]⟩:Sn) (sL 6))) from List.mem_append_right _ (.tail _ (List.mem_append_right _ hφ))))) (fun q hq=>by rw[List.mem_singleton] at hq;subst hq;show 1≤1000000;decide)) ?_
     conv=>arg 5;whnf
     exact wp_back fun β ρ w' hM'=>⟨rfl,hM'.below⟩
    ·skip
     conv=>arg 5;whnf
     refine meetSt (f:=16) ⟨⟨XO,6,0,failL 0,⟨2,tx0,[],0⟩,true⟩,sL 6,[],true⟩ [] (by simp) rfl (by kernel_rfl) (fun β ρ w' hM'=>step_at stepX y0 (⟨la,lc,sa,sc,[⟨qa,1,qc,qL,1⟩]⟩:Sn) w' (hM.later hM'.below) (y0_ok XO) (y0_fs XO) hx (fun φ hφ g hg=>(hM'.fact φ (show φ∈(rowF (pt none 0) (cellsL [])::(y.fs (tL 6)++sgF (⟨la,lc,sa,sc,[⟨qa,1,qc,qL,1⟩]⟩:Sn) (sL 6))) from .tail _ (List.mem_append_right _ hφ)) g hg).2) (mayL 6 (by decide)) szX) (fun a ha hnew=>?_)
     obtain⟨y2,x2,e2a,e2c⟩:=a
     conv=>arg 5;whnf
     refine wp_must ⟨by decide,by show (0:Int)<((1:Nat):Int);decide,hsl.some (show 0<1 by decide)⟩ ?_
     conv=>arg 5;whnf
     refine readF (sz:=2) (k:=0) (f:=0) (.slice qa 1 qc) rfl (show rowF (pt sa 1) (cellsS [⟨qa,1,qc,qL,1⟩])∈(⟨y2,x2,e2a,e2c⟩:Sa).fs ⟨⟨XO,6,0,failL 0,⟨2,tx0,[],0⟩,true⟩,sL 6,[],true⟩++(rowF (pt none 0) (cellsL [])::(y.fs (tL 6)++sgF (⟨la,lc,sa,sc,[⟨qa,1,qc,qL,1⟩]⟩:Sn) (sL 6))) from List.mem_append_right _ (.tail _ (List.mem_append_right _ (.tail _ (.head _))))) (show 0<1 by decide) (hsl.some (show 0<1 by decide)) rfl rfl ?_
     conv=>arg 5;whnf
     refine wp_must ⟨by decide,by show (0:Int)<((1:Nat):Int);decide,hsl.some (show 0<1 by decide)⟩ ?_
     conv=>arg 5;whnf
     refine readF (sz:=2) (k:=0) (f:=1) (.int .i64 1) rfl (show rowF (pt sa 1) (cellsS [⟨qa,1,qc,qL,1⟩])∈(⟨y2,x2,e2a,e2c⟩:Sa).fs ⟨⟨XO,6,0,failL 0,⟨2,tx0,[],0⟩,true⟩,sL 6,[],true⟩++(rowF (pt none 0) (cellsL [])::(y.fs (tL 6)++sgF (⟨la,lc,sa,sc,[⟨qa,1,qc,qL,1⟩]⟩:Sn) (sL 6))) from List.mem_append_right _ (.tail _ (List.mem_append_right _ (.tail _ (.head _))))) (show 0<1 by decide) (hsl.some (show 0<1 by decide)) rfl rfl ?_
     conv=>arg 5;whnf
     refine meetc (f:=15) (v:=.bool false) rfl (by kernel_rfl) (fun β ρ w' hM'=>able_at able6 (mayL 6 (by decide)) y (⟨la,lc,sa,sc,[⟨qa,1,qc,qL,1⟩]⟩:Sn) w' (hM.later hM'.below) hx (fun φ hφ g hg=>(hM'.fact φ (show φ∈(⟨y2,x2,e2a,e2c⟩:Sa).fs ⟨⟨XO,6,0,failL 0,⟨2,tx0,[],0⟩,true⟩,sL 6,[],true⟩++(rowF (pt none 0) (cellsL [])::(y.fs (tL 6)++sgF (⟨la,lc,sa,sc,[⟨qa,1,qc,qL,1⟩]⟩:Sn) (sL 6))) from List.mem_append_right _ (.tail _ (List.mem_append_right _ hφ))) g hg).2)) ?_
     conv=>arg 5;whnf
     refine meetc (f:=30) (v:=.bool true) rfl (by kernel_rfl) (fun β ρ w' hM'=>may6 (⟨la,lc,sa,sc,[⟨qa,1,qc,qL,1⟩]⟩:Sn) w' (hM.later hM'.below) (sgs_of hM' hx (fun φ hφ=>(show φ∈(⟨y2,x2,e2a,e2c⟩:Sa).fs ⟨⟨XO,6,0,failL 0,⟨2,tx0,[],0⟩,true⟩,sL 6,[],true⟩++(rowF (pt none 0) (cellsL [])::(y.fs (tL 6)++sgF (⟨la,lc,sa,sc,[⟨qa,1,qc,qL,1⟩]⟩:Sn) (sL 6))) from List.mem_append_right _ (.tail _ (List.mem_append_right _ hφ))))) (fun q hq=>by rw[List.mem_singleton] at hq;subst hq;show 1≤1000000;decide)) ?_
     conv=>arg 5;whnf
     exact wp_back fun β ρ w' hM'=>⟨rfl,hM'.below⟩
   ·skip
    conv=>arg 5;whnf
    refine meetc (f:=13) (v:=tkV (newT XO) y0) rfl (by kernel_rfl) (fun β ρ w' hM'=>new_any w') ?_
    conv=>arg 5;whnf
    refine meetSt (f:=16) ⟨⟨XO,6,0,failL 0,⟨2,tx0,[],0⟩,true⟩,sL 6,[],true⟩ [] (by simp) rfl (by kernel_rfl) (fun β ρ w' hM'=>step_at stepX y0 (⟨la,lc,sa,sc,[⟨qa,1,qc,qL,1⟩]⟩:Sn) w' (hM.later hM'.below) (y0_ok XO) (y0_fs XO) hx (fun φ hφ g hg=>(hM'.fact φ (show φ∈(rowF (pt none 0) (cellsL [])::(y.fs (tL 6)++sgF (⟨la,lc,sa,sc,[⟨qa,1,qc,qL,1⟩]⟩:Sn) (sL 6))) from .tail _ (List.mem_append_right _ hφ)) g hg).2) (mayL 6 (by decide)) szX) (fun a ha hnew=>?_)
    obtain⟨y2,x2,e2a,e2c⟩:=a
    conv=>arg 5;whnf
    refine wp_must ⟨by decide,by show (0:Int)<((1:Nat):Int);decide,hsl.some (show 0<1 by decide)⟩ ?_
    conv=>arg 5;whnf
    refine readF (sz:=2) (k:=0) (f:=0) (.slice qa 1 qc) rfl (show rowF (pt sa 1) (cellsS [⟨qa,1,qc,qL,1⟩])∈(⟨y2,x2,e2a,e2c⟩:Sa).fs ⟨⟨XO,6,0,failL 0,⟨2,tx0,[],0⟩,true⟩,sL 6,[],true⟩++(rowF (pt none 0) (cellsL [])::(y.fs (tL 6)++sgF (⟨la,lc,sa,sc,[⟨qa,1,qc,qL,1⟩]⟩:Sn) (sL 6))) from List.mem_append_right _ (.tail _ (List.mem_append_right _ (.tail _ (.head _))))) (show 0<1 by decide) (hsl.some (show 0<1 by decide)) rfl rfl ?_
    conv=>arg 5;whnf
    refine wp_must ⟨by decide,by show (0:Int)<((1:Nat):Int);decide,hsl.some (show 0<1 by decide)⟩ ?_
    conv=>arg 5;whnf
    refine readF (sz:=2) (k:=0) (f:=1) (.int .i64 1) rfl (show rowF (pt sa 1) (cellsS [⟨qa,1,qc,qL,1⟩])∈(⟨y2,x2,e2a,e2c⟩:Sa).fs ⟨⟨XO,6,0,failL 0,⟨2,tx0,[],0⟩,true⟩,sL 6,[],true⟩++(rowF (pt none 0) (cellsL [])::(y.fs (tL 6)++sgF (⟨la,lc,sa,sc,[⟨qa,1,qc,qL,1⟩]⟩:Sn) (sL 6))) from List.mem_append_right _ (.tail _ (List.mem_append_right _ (.tail _ (.head _))))) (show 0<1 by decide) (hsl.some (show 0<1 by decide)) rfl rfl ?_
    conv=>arg 5;whnf
    refine meetc (f:=15) (v:=.bool false) rfl (by kernel_rfl) (fun β ρ w' hM'=>able_at able6 (mayL 6 (by decide)) y (⟨la,lc,sa,sc,[⟨qa,1,qc,qL,1⟩]⟩:Sn) w' (hM.later hM'.below) hx (fun φ hφ g hg=>(hM'.fact φ (show φ∈(⟨y2,x2,e2a,e2c⟩:Sa).fs ⟨⟨XO,6,0,failL 0,⟨2,tx0,[],0⟩,true⟩,sL 6,[],true⟩++(rowF (pt none 0) (cellsL [])::(y.fs (tL 6)++sgF (⟨la,lc,sa,sc,[⟨qa,1,qc,qL,1⟩]⟩:Sn) (sL 6))) from List.mem_append_right _ (.tail _ (List.mem_append_right _ hφ))) g hg).2)) ?_
    conv=>arg 5;whnf
    refine meetc (f:=30) (v:=.bool true) rfl (by kernel_rfl) (fun β ρ w' hM'=>may6 (⟨la,lc,sa,sc,[⟨qa,1,qc,qL,1⟩]⟩:Sn) w' (hM.later hM'.below) (sgs_of hM' hx (fun φ hφ=>(show φ∈(⟨y2,x2,e2a,e2c⟩:Sa).fs ⟨⟨XO,6,0,failL 0,⟨2,tx0,[],0⟩,true⟩,sL 6,[],true⟩++(rowF (pt none 0) (cellsL [])::(y.fs (tL 6)++sgF (⟨la,lc,sa,sc,[⟨qa,1,qc,qL,1⟩]⟩:Sn) (sL 6))) from List.mem_append_right _ (.tail _ (List.mem_append_right _ hφ))))) (fun q hq=>by rw[List.mem_singleton] at hq;subst hq;show 1≤1000000;decide)) ?_
    conv=>arg 5;whnf
    exact wp_back fun β ρ w' hM'=>⟨rfl,hM'.below⟩
end Go.Proofs.YtmoopmcdolonjaaGreatDoor.task
