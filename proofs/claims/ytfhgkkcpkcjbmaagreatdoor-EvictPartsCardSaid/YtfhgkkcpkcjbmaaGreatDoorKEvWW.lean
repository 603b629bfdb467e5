/- Layer 17 (evict): what hopperlaw17.live comes to. -/
import Derived.Test.YtfhgkkcpkcjbmaaGreatDoorKEvGG
import Derived.Test.YtfhgkkcpkcjbmaaGreatDoorKTkRR
import Derived.Test.YtfhgkkcpkcjbmaaGreatDoorKTkJJ
set_option linter.all false
set_option maxHeartbeats 4000000
set_option maxRecDepth 100000
namespace Go.Proofs.YtfhgkkcpkcjbmaaGreatDoor.evict
open Go.RowKit Sx txn queue greedy shard pool Go.Proofs.YtfhgkkcpkcjbmaaGreatDoor.look lock Go.Proofs.YtfhgkkcpkcjbmaaGreatDoor.task
abbrev T7:Tx:=pool.T1
abbrev O7:Oq:=⟨0,0,0,0,bz T7⟩
abbrev C7:Cf:=⟨2,0,5,2,0,1,1,1⟩
def L7:Pl:=⟨true,1,1,0,[T7],[(1,T7)],⟨0,tx0,[],0⟩⟩
def t7:Nat→Tk
 | 0=>newT O7
 | 1=>⟨O7,1,1,failL 0,R0,false⟩
 | 2=>⟨O7,2,1,failL 0,R0,false⟩
 | 3=>⟨O7,3,1,L7,R0,false⟩
 | 4=>⟨O7,4,1,L7,L7.r,true⟩
 | 5=>⟨O7,5,1,L7,L7.r,true⟩
 | _+6=>⟨O7,6,1,L7,L7.r,true⟩
def s7:Nat→Sg
 | 0=>⟨C7,[0,0],0,5,[([],0),([],0)]⟩
 | 1=>⟨C7,[0,0],0,5,[([],0),([],0)]⟩
 | 2=>⟨C7,[1,0],0,5,[([],0),([],0)]⟩
 | 3=>⟨C7,[1,0],0,5,[([],0),([],0)]⟩
 | 4=>⟨C7,[1,0],1,5,[([],0),([],0)]⟩
 | 5=>⟨C7,[1,0],1,5,[([(1,0,[T7])],1),([],0)]⟩
 | _+6=>⟨C7,[0,0],1,5,[([(1,0,[T7])],1),([],0)]⟩
def d7 (k:Nat):List Ev:=if k=3 then [(1,T7)] else []
def p7 (k:Nat):Bool:=decide (k=3)
theorem step7:∀k,k<6→stepR (t7 k) 1 (s7 k)=⟨t7 (k+1),s7 (k+1),d7 k,p7 k⟩
 | 0,_=>by kernel_rfl
 | 1,_=>by kernel_rfl
 | 2,_=>by kernel_rfl
 | 3,_=>by kernel_rfl
 | 4,_=>by kernel_rfl
 | 5,_=>by kernel_rfl
 | k+6,h=>by omega
theorem may7:∀k,k≤6→mayS (s7 k)=true
 | 0,_=>by kernel_rfl
 | 1,_=>by kernel_rfl
 | 2,_=>by kernel_rfl
 | 3,_=>by kernel_rfl
 | 4,_=>by kernel_rfl
 | 5,_=>by kernel_rfl
 | 6,_=>by kernel_rfl
 | k+7,h=>by omega
theorem idle7:ableE v0 9 (s7 0)=false:=by kernel_rfl
theorem over7:ableE v0 9 (s7 6)=true:=by kernel_rfl
def e7:Sg:=⟨C7,[0,0],0,5,[([],2),([],0)]⟩
def m7:Sg:=⟨C7,[9,0],1,5,[([(1,0,[T7])],1),([],0)]⟩
theorem full7:runZ 9 ⟨v0,s7 6,[],0⟩ 99=⟨v0,e7,[(3,T7)],1⟩:=by kernel_rfl
theorem done7:ableE v0 9 e7=false:=by kernel_rfl
theorem mayE7:mayS e7=true:=by kernel_rfl
theorem two7:runZ 9 ⟨v0,s7 6,[],0⟩ 2=⟨⟨1,1,tx0,failL 0,[]⟩,⟨C7,[9,0],1,5,[([(1,0,[T7])],1),([],0)]⟩,[],0⟩:=by kernel_rfl
end Go.Proofs.YtfhgkkcpkcjbmaaGreatDoor.evict
namespace Go.Proofs.YtfhgkkcpkcjbmaaGreatDoor.task
open Go.RowKit Sx txn queue greedy shard pool Go.Proofs.YtfhgkkcpkcjbmaaGreatDoor.look lock
abbrev LO:Oq:=⟨0,0,0,0,bz pool.T1⟩
def LL:Pl:=⟨true,1,1,0,[pool.T1],[(1,pool.T1)],⟨0,tx0,[],0⟩⟩
def tL:Nat→Tk
 | 0=>newT LO
 | 1=>⟨LO,1,1,failL 0,R0,false⟩
 | 2=>⟨LO,2,1,failL 0,R0,false⟩
 | 3=>⟨LO,3,1,LL,R0,false⟩
 | 4=>⟨LO,4,1,LL,LL.r,true⟩
 | 5=>⟨LO,5,1,LL,LL.r,true⟩
 | _+6=>⟨LO,6,1,LL,LL.r,true⟩
theorem szLO:(bz pool.T1).size≤1000000:=of_decide_eq_true (by kernel_rfl)
theorem szL:∀k,k≤6→Tsz (tL k):=by
 have f1:Fits 1:=by constructor <;> decide
 have f0:Fits 0:=by constructor <;> decide
 have t1:∀z∈[pool.T1],z.d.size≤maxLen:=fun z hz=>by rw [List.mem_singleton] at hz;subst hz;exact Nat.zero_le _
 have A:∀(p s:Int) (r:Rq) (b:Bool),r.l.length≤1000→Tsz ⟨LO,p,s,failL 0,r,b⟩:=fun p s r b h=>⟨szLO,Nat.zero_le _,fun z hz=>(by cases hz),Nat.zero_le _,Nat.zero_le _,h,f0⟩
 have B:∀(p s:Int) (r:Rq) (b:Bool),r.l.length≤1000→Tsz ⟨LO,p,s,LL,r,b⟩:=fun p s r b h=>⟨szLO,(show 1≤1000 by decide),t1,(show 1≤1000 by decide),Nat.zero_le _,h,f1⟩
 intro k hk
 match k,hk with
 | 0,_=>exact A _ _ _ _ (by decide)
 | 1,_=>exact A _ _ _ _ (by decide)
 | 2,_=>exact A _ _ _ _ (by decide)
 | 3,_=>exact B _ _ _ _ (by decide)
 | 4,_=>exact B _ _ _ _ (by decide)
 | 5,_=>exact B _ _ _ _ (by decide)
 | 6,_=>exact B _ _ _ _ (by decide)
 | k+7,h=>omega
theorem loop_vac {P:Program} {W:World} {G:Option Nat} {Q:Ending→World→Prop} {ds:List Deferred} {body:Code} {m:M} {t:List Sx.T} {k:Exit→M→List Sx.T→Tree} (vac:List Fact) (hv:∀φ∈vac,φ.g=none) (h:(Tree.loop body (m.learn vac) t k).wpD P W G Q ds):(Tree.loop body m t k).wpD P W G Q ds:=
 fun β ρ a w hm hr hd=>h β ρ a w (hm.learn vac fun φ hφ g hg=>by rw [hv φ hφ] at hg;cases hg) hr hd
theorem meetOp {W:World} {G:Option Nat} {Q:Ending→World→Prop} {ds:List Deferred} {f:FuncId} {args:List Sx.T} {l:List Value} {m:M} {k:Value→List Fact→Tree} (s:Sg) (hv:valsOf args=some l) (hc:callable Tryz.prog f=true)
  (hC:∀β ρ w,Mem W G m β ρ w→Calls Tryz.prog f (List.toArray l) w fun e w'=>∃x:Sn,Sgo x s∧Lay w w' [] e (.tuple #[sgV s x,.int .i64 0]) (sgF x s))
  (h:∀x:Sn,Sgo x s→(∀φ∈sgF x s,New W [] φ)→(k (.tuple #[sgV s x,.int .i64 0]) (sgF x s)).wpD Tryz.prog W G Q ds):(Tree.call f args m k).wpD Tryz.prog W G Q ds:=
 meetLy (ι:=Sn) (ok:=fun x=>Sgo x s) (v:=fun x=>.tuple #[sgV s x,.int .i64 0]) (fs:=fun x=>sgF x s) [] (by simp) hv hc hC h
theorem new_any {O:Oq} (w:World):Calls Tryz.prog 52 (List.toArray [O.val]) w fun e w'=>e=.returned (tkV (newT O) ⟨⟨none,0,none,0,none,0⟩,none,0⟩)∧Below w.heap.size w w':=new O w
def y0:Tn:=⟨⟨none,0,none,0,none,0⟩,none,0⟩
theorem y0_ok (O:Oq):y0.ok (newT O):=⟨⟨sl0,sl0,sl0⟩,sl0⟩
theorem step_at {t:Tk} {who:Int} {s:Sg} {r:Sr} (e:stepR t who s=r) (y:Tn) (x:Sn) (w:World) (hM:Most w) (hy:y.ok t) (hyf:∀φ∈y.fs t,∀g,φ.g=some g→∃o,w.heap[g]?=some o∧φ.holds o) (hx:Sgo x s) (hxf:∀φ∈sgF x s,∀g,φ.g=some g→∃o,w.heap[g]?=some o∧φ.holds o) (hm:mayS s=true) (ht:Tsz t) :
  Calls Tryz.prog 53 (List.toArray [tkV t y,.int .i64 who,sgV s x]) w fun e w'=>StA w w' [] e r:=e▸step t y who s x w hM hy hyf hx hxf hm ht
end Go.Proofs.YtfhgkkcpkcjbmaaGreatDoor.task
namespace Go.Proofs.YtfhgkkcpkcjbmaaGreatDoor.evict
open Go.RowKit Sx txn queue greedy shard pool Go.Proofs.YtfhgkkcpkcjbmaaGreatDoor.look lock Go.Proofs.YtfhgkkcpkcjbmaaGreatDoor.task
theorem open_7 (w:World):Calls Tryz.prog 50 (List.toArray [C7.val]) w fun e w'=>∃x:Sn,Sgo x (s7 0)∧Lay w w' [] e (.tuple #[sgV (s7 0) x,.int .i64 0]) (sgF x (s7 0)):=open_ C7 w (by kernel_rfl)
theorem sz7:∀k,k≤6→Tsz (t7 k):=by
 intro k hk
 have a:=szL k hk
 match k,hk,a with
 | 0,_,a=>exact a
 | 1,_,a=>exact a
 | 2,_,a=>exact a
 | 3,_,a=>exact a
 | 4,_,a=>exact a
 | 5,_,a=>exact a
 | 6,_,a=>exact a
theorem sgs_7 {x:Sn} {s:Sg} {w:World} (hx:Sgo x s) (hxf:∀φ∈sgF x s,∀g,φ.g=some g→∃o,w.heap[g]?=some o∧φ.holds o):Sgs w x s:=⟨⟨hx.1,fun g hg=>hxf _ (.head _) g hg⟩,⟨hx.2.1,rfl,fun g hg=>hxf _ (.tail _ (.head _)) g hg,fun q hq=>⟨(hx.2.2.1 q hq).1,(hx.2.2.1 q hq).2.1,fun g hg=>hxf _ (.tail _ (.tail _ (List.mem_flatMap.2 ⟨q,hq,.head _⟩))) g hg,fun z hz=>⟨(hx.2.2.1 q hq).2.2 z hz,fun g hg=>hxf _ (.tail _ (.tail _ (List.mem_flatMap.2 ⟨q,hq,.tail _ (List.mem_map.2 ⟨z,hz,rfl⟩)⟩))) g hg⟩⟩⟩,hx.2.2.2⟩
def n0:Pn:=⟨none,0,none,0,none,0⟩
theorem n0_ok:n0.ok (failL 0):=⟨sl0,sl0,sl0⟩
theorem able_e7 {v:Ek} {who:Int} {s:Sg} {b:Bool} (e:ableE v who s=b) (hm:mayS s=true) (y:Pn) (x:Sn) (w:World) (hM:Most w) (hx:Sgo x s) (hxf:∀φ∈sgF x s,∀g,φ.g=some g→∃o,w.heap[g]?=some o∧φ.holds o) :
  Calls Tryz.prog 31 (List.toArray [ekV v y,.int .i64 who,sgV s x]) w fun e w'=>e=.returned (.bool b)∧Below w.heap.size w w':=by
 have hq0:∀q∈s.S,q.1.length≤1000:=fun q hq=>by
  obtain ⟨k,hk⟩:=List.mem_iff_getElem?.1 hq
  have:=may_len hm hk
  omega
 exact e▸able v y who s x w hM (sgs_7 hx hxf) (fun q hq=>Nat.le_trans (sgs_n hx hq0 q hq) (by decide)) (by have:=(may_small hm).1;omega)
theorem new_n0 {W:World} {X:List Fact} {φ:Fact} (h:New W (n0.fsN v0++X) φ):New W X φ:=fun g hg=>(h g hg).elim .inl (fun ⟨ψ,h1,h2⟩=>(List.mem_append.1 h1).elim (fun q=>by
 unfold Pn.fsN at q
 simp only [List.mem_cons,List.not_mem_nil,or_false] at q
 rcases q with rfl | rfl | rfl <;> cases h2) (fun q=>.inr ⟨ψ,q,h2⟩))
theorem n0_fs {w:World}:∀φ∈n0.fsN v0,∀g,φ.g=some g→∃o,w.heap[g]?=some o∧φ.holds o:=fun φ hφ g hg=>by
 unfold Pn.fsN at hφ
 simp only [List.mem_cons,List.not_mem_nil,or_false] at hφ
 rcases hφ with rfl | rfl | rfl <;> cases hg
theorem gd7:Gd v0 (s7 6):=⟨Nat.zero_le _,fun z hz=>(by cases hz),Nat.zero_le _,Nat.zero_le _,⟨by decide,by decide,fun q hq=>by
 have hq:q∈[([(1,0,[T7])],(1:Int)),([],0)]:=hq
 simp only [List.mem_cons,List.not_mem_nil,or_false] at hq
 rcases hq with rfl | rfl <;> decide⟩⟩
theorem run_7 {n:Nat} {m:Int} (e:(min m 10000).toNat=n) {z:Rz} (ez:runZ 9 ⟨v0,s7 6,[],0⟩ n=z) (x:Sn) (w:World) (hM:Most w) (hx:Sgo x (s7 6)) (hxf:∀φ∈sgF x (s7 6),∀g,φ.g=some g→∃o,w.heap[g]?=some o∧φ.holds o) :
  Calls Tryz.prog 19 (List.toArray [ekV v0 n0,.int .i64 9,sgV (s7 6) x,.int .i64 m]) w fun e w'=>Et (Ea.vR z.n) w w' (sgF x (s7 6)) e ⟨z.v,z.s,z.ev,false⟩:=
 (run v0 n0 9 (s7 6) x m w hM n0_ok n0_fs hx hxf gd7).mono fun e' w' ⟨z',hz,_,_,a,ha,he,hb,hf⟩=>by
  rw [e,ez] at hz
  subst hz
  exact ⟨a,ha,he,hb,fun φ hφ g hg=>⟨new_n0 (fun g hg=>(hf φ hφ g hg).1) g hg,(hf φ hφ g hg).2⟩⟩
theorem live (w:World) (hM:Most w):Calls Tryz.prog 15 (List.toArray []) w fun e w'=>e=.returned (.bool true)∧Below w.heap.size w w':=by
 refine calls_of_exec Sxe.env_ok.keeps Tryz.func15 rfl [] (schedQ_ok _ _ (by kernel_rfl)) [] (by simp) ?_
 conv=>arg 5;whnf
 refine meetOp (f:=50) (s7 0) rfl (by kernel_rfl) (fun β ρ w' hM'=>open_7 w') (fun x hx _=>?_)
 conv=>arg 5;whnf
 refine meetc (f:=51) (v:=.tuple #[.string (bz pool.T1),.bool true]) rfl (by kernel_rfl) (fun β ρ w' hM'=>enc_ pool.T1 rfl w' (Nat.zero_le _)) ?_
 conv=>arg 5;whnf
 refine meetc (f:=52) (v:=tkV (newT O7) y0) rfl (by kernel_rfl) (fun β ρ w' hM'=>new_any w') ?_
 conv=>arg 5;whnf
 refine meetc (f:=31) (v:=.bool false) rfl (by kernel_rfl) (fun β ρ w' hM'=>able_e7 (v:=v0) idle7 (may7 0 (by decide)) n0 x w' (hM.later hM'.below) hx (fun φ hφ g hg=>(hM'.fact φ (show φ∈sgF x (s7 0)++[] from List.mem_append_left _ hφ) g hg).2)) ?_
 conv=>arg 5;whnf
 refine loop_vac (y0.fs (newT O7)) (fun φ hφ=>by simp only [Tn.fs,Pn.fs,List.mem_append,List.mem_cons,List.not_mem_nil,or_false] at hφ;rcases hφ with (rfl | rfl | rfl) | rfl <;> rfl) ?_
 refine loop_rule Sxe.env_ok.keeps [] (schedQ_ok _ _ (by kernel_rfl)) (fun i:Nat×Tn×Sn=>i.1≤6∧i.2.1.ok (t7 i.1)∧Sgo i.2.2 (s7 i.1)) (fun i=>(⟨[some ([.v (.int .i64 2),.v (.int .i64 0),.v (.int .i64 5),.v (.int .i64 2),.v (.int .i64 0),.v (.int .i64 1),.v (.int .i64 1),.v (.int .i64 1)],23),some ([.v (.int .i64 (s7 i.1).C.sh),.v (.int .i64 (s7 i.1).C.so),.v (.int .i64 (s7 i.1).C.hd),.v (.int .i64 (s7 i.1).C.per),.v (.int .i64 (s7 i.1).C.bp),.v (.int .i64 (s7 i.1).C.fd),.v (.int .i64 (s7 i.1).C.wk),.v (.int .i64 (s7 i.1).C.rm),.v (.slice i.2.2.la (s7 i.1).l.length i.2.2.lc),.v (.int .i64 (s7 i.1).t),.v (.int .i64 (s7 i.1).m),.v (.slice i.2.2.sa i.2.2.S.length i.2.2.sc)],56),some ([.v (.int .i64 (t7 i.1).O.k),.v (.int .i64 (t7 i.1).O.s),.v (.int .i64 (t7 i.1).O.v),.v (.int .i64 (t7 i.1).O.g),.v (.string (t7 i.1).O.d),.v (.int .i64 (t7 i.1).ph),.v (.int .i64 (t7 i.1).s),.v (.bool (t7 i.1).P.ch),.v (.int .i64 (t7 i.1).P.dl),.v (.int .i64 (t7 i.1).P.s),.v (.int .i64 (t7 i.1).P.b),.v (.slice i.2.1.x.a (t7 i.1).P.l.length i.2.1.x.c),.v (.slice i.2.1.x.ea (t7 i.1).P.ev.length i.2.1.x.ec),.v (.int .i64 (t7 i.1).P.r.e),.v (.int .i64 (t7 i.1).P.r.t.s),.v (.int .i64 (t7 i.1).P.r.t.n),.v (.int .i64 (t7 i.1).P.r.t.t),.v (.int .i64 (t7 i.1).P.r.t.c),.v (.int .i64 (t7 i.1).P.r.t.g),.v (.string (t7 i.1).P.r.t.d),.v (.slice i.2.1.x.ta (t7 i.1).P.r.l.length i.2.1.x.tc),.v (.int .i64 (t7 i.1).P.r.n),.v (.int .i64 (t7 i.1).r.e),.v (.int .i64 (t7 i.1).r.t.s),.v (.int .i64 (t7 i.1).r.t.n),.v (.int .i64 (t7 i.1).r.t.t),.v (.int .i64 (t7 i.1).r.t.c),.v (.int .i64 (t7 i.1).r.t.g),.v (.string (t7 i.1).r.t.d),.v (.slice i.2.1.a (t7 i.1).r.l.length i.2.1.c),.v (.int .i64 (t7 i.1).r.n),.v (.bool (t7 i.1).pt)],117)],[],i.2.1.fs (t7 i.1)++sgF i.2.2 (s7 i.1)⟩,[.any,.p 0 0,.p 1 0,.any,.any,.any,.p 2 0,.v (.int .i64 i.1),.any,.any,.any,.any,.any,.any,.any,.any,.any,.any,.any,.any,.any,.any,.any,.any,.any,.any,.any,.any,.any,.any,.any,.any,.any,.any,.any,.any,.any,.any,.any,.any,.any,.any,.any,.any,.any,.any,.any,.any,.any,.any,.any,.any,.any,.any,.any,.any,.any,.any,.any,.any,.any,.any,.any,.any,.any,.any,.any,.any,.any,.any,.any,.any,.any,.any,.any,.any,.any,.any,.any,.any,.any,.any,.any,.any,.any,.any,.any,.any,.any,.any,.any,.any,.any,.any,.any,.any,.any,.any,.any,.any,.any,.any,.any,.any,.any,.any,.any,.any,.any,.any,.any,.any,.any,.any,.any,.any,.any,.any,.any,.any,.any,.any,.any,.any,.any,.any,.any,.any,.any,.any,.any])) (fun i=>6 - i.1) (0,y0,x) ⟨Nat.zero_le _,y0_ok O7,hx⟩ ⟨by repeat' first | exact trivial | refine ⟨.inl rfl,?_⟩ | refine ⟨.inr rfl,?_⟩,⟨by repeat' first | exact trivial | refine ⟨.inl rfl,?_⟩ | refine ⟨.inr rfl,?_⟩,by repeat' first | exact trivial | refine ⟨.inl rfl,?_⟩ | refine ⟨.inr rfl,?_⟩,fun φ h=>(show φ∈y0.fs (newT O7)++(sgF x (s7 0)++[]) from by rw [List.append_nil];exact h)⟩,rfl⟩ ?_
 rintro ⟨k,y,x⟩ ⟨hk,hy,hx⟩
 have hk:k≤6:=hk
 have hy:y.ok (t7 k):=hy
 have hx:Sgo x (s7 k):=hx
 conv=>arg 5;whnf
 refine wp_br (fun h1=>?_) (fun h1=>?_)
 ·have hlt:k<6:=by have h3:=of_decide_eq_true (show decide ((k:Int)<6)=true from h1);omega
  conv=>arg 5;whnf
  refine meetSt (f:=53) ⟨t7 (k+1),s7 (k+1),d7 k,p7 k⟩ [] (by simp) rfl (by kernel_rfl) (fun β ρ w' hM'=>step_at (step7 k hlt) y x w' (hM.later hM'.below) hy (fun φ hφ g hg=>(hM'.fact φ (show φ∈(y.fs (t7 k)++sgF x (s7 k)) from List.mem_append_left _ hφ) g hg).2) hx (fun φ hφ g hg=>(hM'.fact φ (show φ∈(y.fs (t7 k)++sgF x (s7 k)) from List.mem_append_right _ hφ) g hg).2) (may7 k hk) (sz7 k hk)) (fun a ha hnew=>?_)
  obtain ⟨y',x',ea,ec⟩:=a
  obtain ⟨hy',hx',he'⟩:=ha
  have hy':y'.ok (t7 (k+1)):=hy'
  have hx':Sgo x' (s7 (k+1)):=hx'
  have he':Sl ea (d7 k).length ec:=he'
  conv=>arg 5;whnf
  refine wp_must ⟨by show -9223372036854775808≤(k:Int)+1;omega,by show (k:Int)+1≤9223372036854775807;omega⟩ ?_
  conv=>arg 5;whnf
  refine wp_end ⟨(k+1,y',x'),⟨hlt,hy',hx'⟩,⟨by repeat' first | exact trivial | refine ⟨.inl rfl,?_⟩ | refine ⟨.inr rfl,?_⟩,⟨by repeat' first | exact trivial | refine ⟨.inl rfl,?_⟩ | refine ⟨.inr rfl,?_⟩,by repeat' first | exact trivial | refine ⟨.inl rfl,?_⟩ | refine ⟨.inr rfl,?_⟩,fun φ h=>(show φ∈((⟨y',x',ea,ec⟩:Sa).fs ⟨t7 (k+1),s7 (k+1),d7 k,p7 k⟩++(y.fs (t7 k)++sgF x (s7 k))) from List.mem_append_left _ (.tail _ h))⟩,rfl⟩,by show 6 - (k+1)<6 - k;omega⟩
 ·have hk6:k=6:=by have h3:=of_decide_eq_false (show decide ((k:Int)<6)=false from h1);omega
  subst hk6
  conv=>arg 5;whnf
  refine meetEt (Ea.vR 1) (f:=19) ⟨v0,e7,[(3,T7)],false⟩ (sgF x (s7 6)) (fun ψ h=>(show ψ∈(y.fs (t7 6)++sgF x (s7 6)) from List.mem_append_right _ h)) rfl (by kernel_rfl) (fun β ρ w' hM'=>run_7 (by decide) full7 x w' (hM.later hM'.below) hx (fun φ hφ g hg=>(hM'.fact φ (show φ∈(y.fs (t7 6)++sgF x (s7 6)) from List.mem_append_right _ hφ) g hg).2)) (fun a ha hnew=>?_)
  obtain ⟨y1,x1,ea,ec⟩:=a
  obtain ⟨hy1,hx1,he1⟩:=ha
  have hx1:Sgo x1 e7:=hx1
  have he1:Sl ea 1 ec:=he1
  conv=>arg 5;whnf
  refine meetEt (Ea.vR 0) (f:=19) ⟨⟨1,1,tx0,failL 0,[]⟩,m7,[],false⟩ (sgF x (s7 6)) (fun ψ h=>(show ψ∈((⟨y1,x1,ea,ec⟩:Ea).fs ⟨v0,e7,[(3,T7)],false⟩++(y.fs (t7 6)++sgF x (s7 6))) from List.mem_append_right _ (List.mem_append_right _ h))) rfl (by kernel_rfl) (fun β ρ w' hM'=>run_7 (by decide) two7 x w' (hM.later hM'.below) hx (fun φ hφ g hg=>(hM'.fact φ (show φ∈((⟨y1,x1,ea,ec⟩:Ea).fs ⟨v0,e7,[(3,T7)],false⟩++(y.fs (t7 6)++sgF x (s7 6))) from List.mem_append_right _ (List.mem_append_right _ hφ)) g hg).2)) (fun a ha hnew=>?_)
  obtain ⟨y2,x2,ea2,ec2⟩:=a
  obtain ⟨hy2,hx2,he2⟩:=ha
  have hx2:Sgo x2 m7:=hx2
  conv=>arg 5;whnf
  refine meetc (f:=31) (v:=.bool true) rfl (by kernel_rfl) (fun β ρ w' hM'=>able_e7 (v:=v0) over7 (may7 6 (by decide)) n0 x w' (hM.later hM'.below) hx (fun φ hφ g hg=>(hM'.fact φ (show φ∈((⟨y2,x2,ea2,ec2⟩:Ea).fs ⟨⟨1,1,tx0,failL 0,[]⟩,m7,[],false⟩++((⟨y1,x1,ea,ec⟩:Ea).fs ⟨v0,e7,[(3,T7)],false⟩++(y.fs (t7 6)++sgF x (s7 6)))) from List.mem_append_right _ (List.mem_append_right _ (List.mem_append_right _ hφ))) g hg).2)) ?_
  conv=>arg 5;whnf
  refine wp_must ⟨by decide,by decide,he1.some (k:=0) (by decide)⟩ ?_
  conv=>arg 5;whnf
  refine readF (sz:=8) (k:=0) (f:=0) (.int .i64 3) rfl (show rowF (pt ea 1) (cellsE [(3,T7)])∈((⟨y2,x2,ea2,ec2⟩:Ea).fs ⟨⟨1,1,tx0,failL 0,[]⟩,m7,[],false⟩++((⟨y1,x1,ea,ec⟩:Ea).fs ⟨v0,e7,[(3,T7)],false⟩++(y.fs (t7 6)++sgF x (s7 6)))) from List.mem_append_right _ (.head _)) (by decide) (he1.some (k:=0) (by decide)) rfl rfl ?_
  conv=>arg 5;whnf
  refine meetc (f:=31) (v:=.bool false) rfl (by kernel_rfl) (fun β ρ w' hM'=>able_e7 (v:=v0) done7 mayE7 y1 x1 w' (hM.later hM'.below) hx1 (fun φ hφ g hg=>(hM'.fact φ (show φ∈((⟨y2,x2,ea2,ec2⟩:Ea).fs ⟨⟨1,1,tx0,failL 0,[]⟩,m7,[],false⟩++((⟨y1,x1,ea,ec⟩:Ea).fs ⟨v0,e7,[(3,T7)],false⟩++(y.fs (t7 6)++sgF x (s7 6)))) from List.mem_append_right _ (List.mem_append_left _ (.tail _ (List.mem_append_right _ hφ)))) g hg).2)) ?_
  conv=>arg 5;whnf
  refine wp_must ⟨by decide,by decide,hx2.1.some (k:=0) (by decide)⟩ ?_
  conv=>arg 5;whnf
  refine readF (sz:=1) (k:=0) (f:=0) (.int .i64 9) rfl (show rowF (pt x2.la 2) (ic [9,0])∈((⟨y2,x2,ea2,ec2⟩:Ea).fs ⟨⟨1,1,tx0,failL 0,[]⟩,m7,[],false⟩++((⟨y1,x1,ea,ec⟩:Ea).fs ⟨v0,e7,[(3,T7)],false⟩++(y.fs (t7 6)++sgF x (s7 6)))) from List.mem_append_left _ (.tail _ (List.mem_append_right _ (.head _)))) (by decide) (hx2.1.some (k:=0) (by decide)) rfl rfl ?_
  conv=>arg 5;whnf
  refine wp_must ⟨by decide,by decide,hx2.1.some (k:=0) (by decide)⟩ ?_
  conv=>arg 5;whnf
  refine readF (sz:=1) (k:=1) (f:=0) (.int .i64 0) rfl (show rowF (pt x2.la 2) (ic [9,0])∈((⟨y2,x2,ea2,ec2⟩:Ea).fs ⟨⟨1,1,tx0,failL 0,[]⟩,m7,[],false⟩++((⟨y1,x1,ea,ec⟩:Ea).fs ⟨v0,e7,[(3,T7)],false⟩++(y.fs (t7 6)++sgF x (s7 6)))) from List.mem_append_left _ (.tail _ (List.mem_append_right _ (.head _)))) (by decide) (hx2.1.some (k:=0) (by decide)) rfl rfl ?_
  conv=>arg 5;whnf
  exact wp_back fun β ρ w' hM'=>⟨rfl,hM'.below⟩
end Go.Proofs.YtfhgkkcpkcjbmaaGreatDoor.evict
