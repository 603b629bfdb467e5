/- Layer 15 (look): plans; fail, become, tell. -/
import Derived.Test.YtfhgkkcpkcjbmaaGreatDoorKPoAll
import Derived.Test.YtfhgkkcpkcjbmaaGreatDoorKEnvL
set_option linter.all false
set_option maxHeartbeats 4000000
set_option maxRecDepth 100000
namespace Go.Proofs.YtfhgkkcpkcjbmaaGreatDoor.look
open Go.RowKit Sx txn queue greedy shard pool
structure Pl where
 ch:Bool
 dl:Int
 s:Int
 b:Int
 l:List Tx
 ev:List Ev
 r:Rq
structure Pn where
 a:Option Addr
 c:Nat
 ea:Option Addr
 ec:Nat
 ta:Option Addr
 tc:Nat
def planV (p:Pl) (x:Pn):Value:=.agg #[.bool p.ch,.int .i64 p.dl,.int .i64 p.s,.int .i64 p.b,.slice x.a p.l.length x.c,.slice x.ea p.ev.length x.ec,.int .i64 p.r.e,.int .i64 p.r.t.s,.int .i64 p.r.t.n,.int .i64 p.r.t.t,.int .i64 p.r.t.c,.int .i64 p.r.t.g,.string p.r.t.d,.slice x.ta p.r.l.length x.tc,.int .i64 p.r.n]
def Pn.ok (x:Pn) (p:Pl):Prop:=Sl x.a p.l.length x.c∧Sl x.ea p.ev.length x.ec∧Sl x.ta p.r.l.length x.tc
def Pn.fs (x:Pn) (p:Pl):List Fact:=[rowF (pt x.a p.l.length) (cellsL p.l),rowF (pt x.ea p.ev.length) (cellsE p.ev),rowF (pt x.ta p.r.l.length) (cellsL p.r.l)]
def PAns (w w':World) (old:List Fact) (e:Ending) (p:Pl):Prop:=∃x:Pn,x.ok p∧Lay w w' old e (planV p x) (x.fs p)
section
variable {W : World} {G : Option Nat} {Q : Ending → World → Prop} {ds : List Deferred}
theorem meetPl {f:FuncId} {args:List Sx.T} {l:List Value} {m:M} {k:Value→List Fact→Tree} (p:Pl) (old:List Fact) (hold:∀ψ∈old,ψ∈m.facts) (hv:valsOf args=some l) (hc:callable Tryz.prog f=true)
  (hC:∀β ρ w,Mem W G m β ρ w→Calls Tryz.prog f (List.toArray l) w fun e w'=>PAns w w' old e p)
  (h:∀x:Pn,x.ok p→(∀φ∈x.fs p,New W old φ)→(k (planV p x) (x.fs p)).wpD Tryz.prog W G Q ds):(Tree.call f args m k).wpD Tryz.prog W G Q ds:=
 meetLy (ι:=Pn) (ok:=fun x=>x.ok p) (v:=fun x=>planV p x) (fs:=fun x=>x.fs p) old hold hv hc hC h
end
theorem plan_mk {w w':World} {old:List Fact} {e:Ending} {p:Pl} (x:Pn) (hx:x.ok p) (he:e=.returned (planV p x)) (hb:Below w.heap.size w w') (h:∀φ∈x.fs p,∀g,φ.g=some g→(w.heap.size≤g∨∃ψ∈old,ψ.g=some g)∧∃o,w'.heap[g]?=some o∧φ.holds o):PAns w w' old e p:=⟨x,hx,he,hb,h⟩
def failL (e:Int):Pl:=⟨false,0,0,0,[],[],⟨e,tx0,[],0⟩⟩
def chK (c:Bool) (k:Nat):Bool:=match k with | 0=>c | _+1=>true
def toL (p q:PA) (r:Rq):Pl:=⟨!(q.2.1==p.2.1),slotsL q.2.2 - slotsL p.2.2,q.1,q.2.1,q.2.2,[],r⟩
def tellL (p:Pl) (κ:Int) (l:List Tx):Pl:={ p with ch:=chK p.ch l.length,ev:=evL κ l }
def addL (per bump:Int) (p:PA) (d:ByteArray):Pl:=match dec d.data.toList with
 | none=>failL 2
 | some t=>if (placeV p.1 p.2.1 per p.2.2 t bump).2=0 then tellL (toL p (p.1,p.2.1,putV t p.2.2) ⟨0,tx0,[],0⟩) (if (findV p.2.2 t.n).2=true then 2 else 1) [t] else failL (placeV p.1 p.2.1 per p.2.2 t bump).2
def dropL (p:PA) (v:Int):Pl:=if (findV p.2.2 v).2=true then tellL (toL p (p.1,p.2.1,dropV v p.2.2) ⟨0,(findV p.2.2 v).1,[],0⟩) 3 [(findV p.2.2 v).1] else failL 7
def advL (p:PA) (y:Int):Pl:=if inB p.1 0 255=true then (if advV p.2.1 y=0 then tellL (toL p (p.1,y,above y p.2.2) ⟨0,tx0,below y p.2.2,0⟩) 3 (below y p.2.2) else failL (advV p.2.1 y)) else failL 1
def getL (p:PA) (v:Int):Pl:=if (findV p.2.2 v).2=true then ⟨false,0,0,0,[],[],⟨0,(findV p.2.2 v).1,[],0⟩⟩ else failL 7
def lookL (per bump:Int) (p:PA) (O:Oq):Pl:=if O.k=0 then addL per bump p O.d else if O.k=1 then dropL p O.v else if O.k=2 then advL p O.v else if O.k=3 then getL p O.v else failL 1
def fullL (p:Pl):Rq:=if p.ch=true∧0<p.dl then ⟨6,tx0,[],0⟩ else p.r
def whoL (O:Oq):Int×Bool:=if O.k=0 then (match dec O.d.data.toList with | none=>(0,false) | some t=>(t.s,true)) else if (O.k=1∨O.k=2∨O.k=3)∧0≤O.s∧O.s≤255 then (O.s,true) else (0,false)
theorem fail (er:Int) (w:World):Calls Tryz.prog 183 (List.toArray [.int .i64 er]) w fun e w'=>PAns w w' [] e (failL er):=by
 refine calls_of_exec Sxk.env_ok.keeps.soon_ Tryz.func183 rfl [] (schedQ_ok _ _ (by kernel_rfl)) [] (by simp) ?_
 conv=>arg 5;whnf
 exact wp_back fun β ρ w' hM'=>plan_mk ⟨none,0,none,0,none,0⟩ ⟨sl0,sl0,sl0⟩ rfl hM'.below (fun φ hφ g hg=>by simp only [Pn.fs,List.mem_cons,List.not_mem_nil,or_false] at hφ;rcases hφ with rfl | rfl | rfl <;> cases hg)
theorem become (p q:PA) (r:Rq) (a0:Option Addr) (c0:Nat) (a1:Option Addr) (c1:Nat) (ta:Option Addr) (tc:Nat) (w:World) (hM:Most w) (h0:Sl a0 p.2.2.length c0) (r0:At w (pt a0 p.2.2.length) (cellsL p.2.2)) (h1:Sl a1 q.2.2.length c1) (r1:At w (pt a1 q.2.2.length) (cellsL q.2.2))
  (hp:p.2.2.length≤1000000) (hq:q.2.2.length≤1000000) (hpd:∀t∈p.2.2,t.d.size≤maxLen) (hqd:∀t∈q.2.2,t.d.size≤maxLen) :
  Calls Tryz.prog 184 (List.toArray [acc p.1 p.2.1 a0 p.2.2.length c0,acc q.1 q.2.1 a1 q.2.2.length c1,resV r ta tc]) w fun e w'=>e=.returned (planV (toL p q r) ⟨a1,c1,none,0,ta,tc⟩)∧Below w.heap.size w w':=by
 have S0:=fun w hM hr=>slots_ p.1 p.2.1 p.2.2 a0 p.2.2.length c0 w hM h0 rfl hr hpd (by omega)
 have S1:=fun w hM hr=>slots_ q.1 q.2.1 q.2.2 a1 q.2.2.length c1 w hM h1 rfl hr hqd (by omega)
 have b0:=slotsL_bd p.2.2
 have b1:=slotsL_bd q.2.2
 have e:toL p q r=⟨!(q.2.1==p.2.1),slotsL q.2.2 - slotsL p.2.2,q.1,q.2.1,q.2.2,[],r⟩:=rfl
 rw [e]
 clear e
 generalize slotsL p.2.2=s0 at *
 generalize slotsL q.2.2=s1 at *
 refine calls_of_exec Sxk.env_ok.keeps.soon_ Tryz.func184 rfl [(1,(line [0,1,2,3,4,5,7,10,11,6,8,9,12,13],[3]))] (schedQ_ok _ _ (by kernel_rfl)) [rowF (pt a0 p.2.2.length) (cellsL p.2.2),rowF (pt a1 q.2.2.length) (cellsL q.2.2)] (fun φ hφ g hg=>by simp only [List.mem_cons,List.not_mem_nil,or_false] at hφ;rcases hφ with rfl | rfl;exact r0 g hg;exact r1 g hg) ?_
 conv=>arg 5;whnf
 refine meetc (f:=210) (v:=.int .i64 s1) rfl (by kernel_rfl) (fun β ρ w' hM'=>S1 w' (hM.later hM'.below) (hM'.at_ (.tail _ (.head _)))) ?_
 conv=>arg 5;whnf
 refine meetc (f:=210) (v:=.int .i64 s0) rfl (by kernel_rfl) (fun β ρ w' hM'=>S0 w' (hM.later hM'.below) (hM'.at_ (.head _))) ?_
 conv=>arg 5;whnf
 refine wp_must ⟨by omega,by omega⟩ ?_
 conv=>arg 5;whnf
 exact wp_back fun β ρ w' hM'=>⟨rfl,hM'.below⟩
theorem tell (p:Pl) (x:Pn) (κ:Int) (l:List Tx) (a:Option Addr) (n c:Nat) (w:World) (hp:p.ev=[]) (hx:x.ea=none∧x.ec=0) (hs:Sl a n c) (hn:n=l.length) (hrow:At w (pt a n) (cellsL l)) (hl:n≤1000000) :
  Calls Tryz.prog 186 (List.toArray [planV p x,.int .i64 κ,.slice a n c]) w fun e w'=>∃i:One,Sl i.1 n i.2∧Gives w w' e (planV (tellL p κ l) ⟨x.a,x.c,i.1,i.2,x.ta,x.tc⟩) [rowF (pt i.1 n) (cellsE (evL κ l))]:=by
 have hn63:=hs.le
 have ev:planV p x=.agg #[.bool p.ch,.int .i64 p.dl,.int .i64 p.s,.int .i64 p.b,.slice x.a p.l.length x.c,.slice none 0 0,.int .i64 p.r.e,.int .i64 p.r.t.s,.int .i64 p.r.t.n,.int .i64 p.r.t.t,.int .i64 p.r.t.c,.int .i64 p.r.t.g,.string p.r.t.d,.slice x.ta p.r.l.length x.tc,.int .i64 p.r.n]:=by unfold planV;rw [hp,hx.1,hx.2];rfl
 rw [ev]
 clear ev
 refine calls_of_exec Sxk.env_ok.keeps.soon_ Tryz.func186 rfl [] (schedQ_ok _ _ (by kernel_rfl)) [rowF (pt a n) (cellsL l)] (at1 hrow) ?_
 conv=>arg 5;whnf
 refine loop_nilC 0 5 122 8 _ _ rfl rfl ?_
 refine loop_ruleE Sxk.env_ok.keeps.soon_ [] (schedQ_ok _ _ (by kernel_rfl)) [2] (fun k:Nat=>k≤n) (fun k=>(⟨[some ([.v (.bool (chK p.ch k)),.v (.int .i64 p.dl),.v (.int .i64 p.s),.v (.int .i64 p.b),.v (.slice x.a p.l.length x.c),.r 0,.v (.int .i64 p.r.e),.v (.int .i64 p.r.t.s),.v (.int .i64 p.r.t.n),.v (.int .i64 p.r.t.t),.v (.int .i64 p.r.t.c),.v (.int .i64 p.r.t.g),.v (.string p.r.t.d),.v (.slice x.ta p.r.l.length x.tc),.v (.int .i64 p.r.n)],49),some ([.v (.bool false),.v (.int .i64 0),.v (.int .i64 0),.v (.int .i64 0),.v (.slice none 0 0),.v (.slice none 0 0),.v (.int .i64 0),.v (.int .i64 0),.v (.int .i64 0),.v (.int .i64 0),.v (.int .i64 0),.v (.int .i64 0),.v (.string ByteArray.empty),.v (.slice none 0 0),.v (.int .i64 0)],49)],[some ⟨122,8,k,cellsE (evL κ (l.take k))⟩],[rowF (pt a n) (cellsL l)]⟩,[.any,.v (.int .i64 κ),.v (.slice a n c),.p 0 0,.any,.any,.p 1 0,.any,.any,.v (.slice a n c),.v (.int .i64 n),.v (.int .i64 k),.any,.any,.any,.any,.any,.any,.any,.any,.any,.any,.any,.any,.any,.any])) (fun k=>n - k) 0 (Nat.zero_le _) ⟨by repeat' first | exact trivial | refine ⟨.inl rfl,?_⟩ | refine ⟨.inr rfl,?_⟩,⟨by repeat' first | exact trivial | refine ⟨.inl rfl,?_⟩ | refine ⟨.inr rfl,?_⟩,by repeat' first | exact trivial | refine ⟨.inl rfl,?_⟩ | refine ⟨.inr rfl,?_⟩,fun _ h=>h⟩,rfl⟩ ?_
 intro k hk
 conv=>arg 5;whnf
 refine wp_br (fun h1=>?_) (fun h1=>?_)
 ·have hlt:k<n:=by have h3:=of_decide_eq_true (show decide ((k:Int)<(n:Int))=true from h1);omega
  obtain ⟨y,hy⟩:∃y,l[k]?=some y:=⟨_,List.getElem?_eq_getElem (by omega)⟩
  have ec:cellsE (evL κ (l.take (k+1)))=cellsE (evL κ (l.take k))++evC (κ,y):=by rw [evL_take hy,cellsE_snoc]
  conv=>arg 5;whnf
  refine wp_must ⟨by omega,by show (k:Int)<(n:Int);omega,hs.some hlt⟩ ?_
  conv=>arg 5;whnf
  refine readG Sxk.env_ok (vs:=cellsX y) (sz:=6) (k:=k) rfl rfl (.head _) hlt (hs.some hlt) (cellsL_at hy) rfl ?_
  conv=>arg 5;whnf
  refine wp_must ⟨by show k+1≤maxLen;unfold maxLen;omega,by show (k+1)*72≤140737488355328;omega⟩ ?_
  conv=>arg 5;whnf
  refine wp_must ⟨by show -9223372036854775808≤(k:Int)+1;omega,by show (k:Int)+1≤9223372036854775807;omega⟩ ?_
  conv=>arg 5;whnf
  refine wp_end ⟨k+1,hlt,⟨by repeat' first | exact trivial | refine ⟨.inl rfl,?_⟩ | refine ⟨.inr rfl,?_⟩,⟨by repeat' first | exact trivial | refine ⟨.inl rfl,?_⟩ | refine ⟨.inr rfl,?_⟩,by rw [ec];repeat' first | exact trivial | refine ⟨.inl rfl,?_⟩ | refine ⟨.inr rfl,?_⟩,fun _ h=>h⟩,rfl⟩,by show n - (k+1)<n - k;omega⟩
 ·have hkn:k=n:=by have h3:=of_decide_eq_false (show decide ((k:Int)<(n:Int))=false from h1);omega
  have e:l.take k=l:=List.take_of_length_le (by omega)
  rw [e,hkn]
  conv=>arg 5;whnf
  refine wp_share fun u c_u h_u f_u=>?_
  conv=>arg 5;whnf
  have el:(evL κ l).length=n:=by rw [evL_len];omega
  refine wp_back fun β ρ w' hM'=>⟨(u,c_u),h_u,?_,hM'.below,fun φ hφ=>?_⟩
  ·unfold planV tellL;rw [← hn,el];rfl
  ·simp only [List.mem_singleton] at hφ
   subst hφ
   exact giveF _ hM' (.head _) f_u
end Go.Proofs.YtfhgkkcpkcjbmaaGreatDoor.look
namespace Go.Proofs.YtfhgkkcpkcjbmaaGreatDoor.look
open Go.RowKit Sx txn queue greedy shard pool
theorem get (p:PA) (a:Option Addr) (c:Nat) (v:Int) (w:World) (hs:Sl a p.2.2.length c) (hrow:At w (pt a p.2.2.length) (cellsL p.2.2)) (hl:p.2.2.length≤1000000) (hd:∀t∈p.2.2,t.d.size≤maxLen) :
  Calls Tryz.prog 233 (List.toArray [acc p.1 p.2.1 a p.2.2.length c,.int .i64 v]) w fun e w'=>PAns w w' [] e (getL p v):=by
 have FI:=fun w hr=>find p.1 p.2.1 p.2.2 a p.2.2.length c v w hs rfl hr
 have e:getL p v=if (findV p.2.2 v).2=true then ⟨false,0,0,0,[],[],⟨0,(findV p.2.2 v).1,[],0⟩⟩ else failL 7:=rfl
 rw [e]
 clear e
 generalize findV p.2.2 v=q at *
 obtain ⟨t,fd⟩:=q
 refine calls_of_exec Sxk.env_ok.keeps.soon_ Tryz.func233 rfl [] (schedQ_ok _ _ (by kernel_rfl)) [rowF (pt a p.2.2.length) (cellsL p.2.2)] (at1 hrow) ?_
 conv=>arg 5;whnf
 refine meetc (f:=165) (v:=.tuple #[t.val,.bool fd]) rfl (by kernel_rfl) (fun β ρ w' hM'=>FI w' (hM'.at_ (show rowF (pt a p.2.2.length) (cellsL p.2.2)∈_ from (by repeat (first | exact List.Mem.head _ | apply List.Mem.tail))))) ?_
 cases fd with
 | false=>
  rw [if_neg (by simp)]
  conv=>arg 5;whnf
  refine meetPl (f:=183) (failL (7)) [] (by simp) rfl (by kernel_rfl) (fun β ρ w' hM'=>fail (7) w') (fun x hx hnew=>?_)
  conv=>arg 5;whnf
  exact wp_back fun β ρ w' hM'=>⟨x,hx,rfl,hM'.below,fun φ hφ g hg=>⟨hnew φ hφ g hg,(hM'.fact φ (List.mem_append_left _ hφ) g hg).2⟩⟩
 | true=>
  rw [if_pos rfl]
  conv=>arg 5;whnf
  exact wp_back fun β ρ w' hM'=>plan_mk ⟨none,0,none,0,none,0⟩ ⟨sl0,sl0,sl0⟩ rfl hM'.below (fun φ hφ g hg=>by simp only [Pn.fs,List.mem_cons,List.not_mem_nil,or_false] at hφ;rcases hφ with rfl | rfl | rfl <;> cases hg)
theorem drop (p:PA) (a:Option Addr) (c:Nat) (v:Int) (w:World) (hM:Most w) (hs:Sl a p.2.2.length c) (hrow:At w (pt a p.2.2.length) (cellsL p.2.2)) (hl:p.2.2.length≤1000000) (hd:∀t∈p.2.2,t.d.size≤maxLen) :
  Calls Tryz.prog 127 (List.toArray [acc p.1 p.2.1 a p.2.2.length c,.int .i64 v]) w fun e w'=>PAns w w' [] e (dropL p v):=by
 have FI:=fun w hr=>find p.1 p.2.1 p.2.2 a p.2.2.length c v w hs rfl hr
 have hdl:(dropV v p.2.2).length≤1000000:=Nat.le_trans (List.length_filter_le ..) hl
 have hdd:∀t∈dropV v p.2.2,t.d.size≤maxLen:=fun t ht=>hd t (List.mem_filter.1 ht).1
 have DR:=fun w hr=>queue.drop p.1 p.2.1 p.2.2 a p.2.2.length c v w hs rfl hr hl
 have e:dropL p v=if (findV p.2.2 v).2=true then tellL (toL p (p.1,p.2.1,dropV v p.2.2) ⟨0,(findV p.2.2 v).1,[],0⟩) 3 [(findV p.2.2 v).1] else failL 7:=rfl
 rw [e]
 clear e
 generalize dropV v p.2.2=dl at *
 generalize findV p.2.2 v=q at *
 obtain ⟨t,fd⟩:=q
 refine calls_of_exec Sxk.env_ok.keeps.soon_ Tryz.func127 rfl [(4,(.one 0 (.one 1 (.one 2 (.one 4 (.one 5 (.one 7 (.fork 3 (.fork 6 (.one 8 (.one 9 (.one 10 (.done)))) 8 (.one 6 (.one 9 (.one 10 (.done))))) 8 (.one 3 (.one 6 (.one 9 (.one 10 (.done))))))))))),[1]))] (schedQ_ok _ _ (by kernel_rfl)) [rowF (pt a p.2.2.length) (cellsL p.2.2)] (at1 hrow) ?_
 conv=>arg 5;whnf
 refine meetc (f:=165) (v:=.tuple #[t.val,.bool fd]) rfl (by kernel_rfl) (fun β ρ w' hM'=>FI w' (hM'.at_ (show rowF (pt a p.2.2.length) (cellsL p.2.2)∈_ from (by repeat (first | exact List.Mem.head _ | apply List.Mem.tail))))) ?_
 cases fd with
 | false=>
  rw [if_neg (by simp)]
  conv=>arg 5;whnf
  refine meetPl (f:=183) (failL (7)) [] (by simp) rfl (by kernel_rfl) (fun β ρ w' hM'=>fail (7) w') (fun x hx hnew=>?_)
  conv=>arg 5;whnf
  exact wp_back fun β ρ w' hM'=>⟨x,hx,rfl,hM'.below,fun φ hφ g hg=>⟨hnew φ hφ g hg,(hM'.fact φ (List.mem_append_left _ hφ) g hg).2⟩⟩
 | true=>
  rw [if_pos rfl]
  conv=>arg 5;whnf
  refine wp_both ?_ ?_
  ·(conv=>arg 5;whnf)
   refine meet1F (f:=185) (n:=dl.length) (v:=fun a1 c1=>acc p.1 p.2.1 a1 dl.length c1) (xs:=cellsL dl) rfl (by kernel_rfl) (fun β ρ w' hM'=>DR w' (hM'.at_ (show rowF (pt a p.2.2.length) (cellsL p.2.2)∈_ from (by repeat (first | exact List.Mem.head _ | apply List.Mem.tail))))) (fun y c_y h_y f_y=>?_)
   conv=>arg 5;whnf
   refine wp_both ?_ ?_
   ·(conv=>arg 5;whnf)
    refine meetc (f:=184) (v:=planV (toL p (p.1,p.2.1,dl) ⟨0,t,[],0⟩) ⟨y,c_y,none,0,none,0⟩) rfl (by kernel_rfl) (fun β ρ w' hM'=>become p (p.1,p.2.1,dl) ⟨0,t,[],0⟩ a c y c_y none 0 w' (hM.later hM'.below) hs (hM'.at_ (show rowF (pt a p.2.2.length) (cellsL p.2.2)∈_ from (by repeat (first | exact List.Mem.head _ | apply List.Mem.tail)))) h_y (hM'.at_ (show rowF (pt y dl.length) (cellsL dl)∈_ from (by repeat (first | exact List.Mem.head _ | apply List.Mem.tail)))) hl hdl hd hdd) ?_
    conv=>arg 5;whnf
    refine wp_share fun z c_z h_z f_z=>?_
    conv=>arg 5;whnf
    refine meet1F (f:=186) (n:=1) (v:=fun a1 c1=>planV (tellL (toL p (p.1,p.2.1,dl) ⟨0,t,[],0⟩) 3 [t]) ⟨y,c_y,a1,c1,none,0⟩) (xs:=cellsE (evL 3 [t])) rfl (by kernel_rfl) (fun β ρ w' hM'=>tell (toL p (p.1,p.2.1,dl) ⟨0,t,[],0⟩) ⟨y,c_y,none,0,none,0⟩ 3 [t] z 1 c_z w' rfl ⟨rfl,rfl⟩ h_z rfl (at_any 1 (hM'.at_ (show rowF (pt z 1) (cellsL [t])∈_ from (by repeat (first | exact List.Mem.head _ | apply List.Mem.tail))))) (by omega)) (fun b c_b h_b f_b=>?_)
    conv=>arg 5;whnf
    exact wp_back fun β ρ w' hM'=>plan_mk (p:=tellL (toL p (p.1,p.2.1,dl) ⟨0,t,[],0⟩) 3 [t]) ⟨y,c_y,b,c_b,none,0⟩ ⟨h_y,h_b,sl0⟩ rfl hM'.below (fun φ hφ g hg=>by simp only [Pn.fs,List.mem_cons,List.not_mem_nil,or_false] at hφ;rcases hφ with rfl | rfl | rfl;exact ⟨.inl (f_y g hg),(hM'.fact _ (by repeat (first | exact List.Mem.head _ | apply List.Mem.tail)) g hg).2⟩;exact ⟨.inl (f_b g hg),(hM'.fact _ (by repeat (first | exact List.Mem.head _ | apply List.Mem.tail)) g hg).2⟩;cases hg)
   ·(conv=>arg 5;whnf)
    refine wp_share fun z c_z h_z f_z=>?_
    conv=>arg 5;whnf
    refine meetc (f:=184) (v:=planV (toL p (p.1,p.2.1,dl) ⟨0,t,[],0⟩) ⟨y,c_y,none,0,none,0⟩) rfl (by kernel_rfl) (fun β ρ w' hM'=>become p (p.1,p.2.1,dl) ⟨0,t,[],0⟩ a c y c_y none 0 w' (hM.later hM'.below) hs (hM'.at_ (show rowF (pt a p.2.2.length) (cellsL p.2.2)∈_ from (by repeat (first | exact List.Mem.head _ | apply List.Mem.tail)))) h_y (hM'.at_ (show rowF (pt y dl.length) (cellsL dl)∈_ from (by repeat (first | exact List.Mem.head _ | apply List.Mem.tail)))) hl hdl hd hdd) ?_
    conv=>arg 5;whnf
    refine meet1F (f:=186) (n:=1) (v:=fun a1 c1=>planV (tellL (toL p (p.1,p.2.1,dl) ⟨0,t,[],0⟩) 3 [t]) ⟨y,c_y,a1,c1,none,0⟩) (xs:=cellsE (evL 3 [t])) rfl (by kernel_rfl) (fun β ρ w' hM'=>tell (toL p (p.1,p.2.1,dl) ⟨0,t,[],0⟩) ⟨y,c_y,none,0,none,0⟩ 3 [t] z 1 c_z w' rfl ⟨rfl,rfl⟩ h_z rfl (at_any 1 (hM'.at_ (show rowF (pt z 1) (cellsL [t])∈_ from (by repeat (first | exact List.Mem.head _ | apply List.Mem.tail))))) (by omega)) (fun b c_b h_b f_b=>?_)
    conv=>arg 5;whnf
    exact wp_back fun β ρ w' hM'=>plan_mk (p:=tellL (toL p (p.1,p.2.1,dl) ⟨0,t,[],0⟩) 3 [t]) ⟨y,c_y,b,c_b,none,0⟩ ⟨h_y,h_b,sl0⟩ rfl hM'.below (fun φ hφ g hg=>by simp only [Pn.fs,List.mem_cons,List.not_mem_nil,or_false] at hφ;rcases hφ with rfl | rfl | rfl;exact ⟨.inl (f_y g hg),(hM'.fact _ (by repeat (first | exact List.Mem.head _ | apply List.Mem.tail)) g hg).2⟩;exact ⟨.inl (f_b g hg),(hM'.fact _ (by repeat (first | exact List.Mem.head _ | apply List.Mem.tail)) g hg).2⟩;cases hg)
  ·(conv=>arg 5;whnf)
   refine wp_share fun z c_z h_z f_z=>?_
   conv=>arg 5;whnf
   refine meet1F (f:=185) (n:=dl.length) (v:=fun a1 c1=>acc p.1 p.2.1 a1 dl.length c1) (xs:=cellsL dl) rfl (by kernel_rfl) (fun β ρ w' hM'=>DR w' (hM'.at_ (show rowF (pt a p.2.2.length) (cellsL p.2.2)∈_ from (by repeat (first | exact List.Mem.head _ | apply List.Mem.tail))))) (fun y c_y h_y f_y=>?_)
   conv=>arg 5;whnf
   refine meetc (f:=184) (v:=planV (toL p (p.1,p.2.1,dl) ⟨0,t,[],0⟩) ⟨y,c_y,none,0,none,0⟩) rfl (by kernel_rfl) (fun β ρ w' hM'=>become p (p.1,p.2.1,dl) ⟨0,t,[],0⟩ a c y c_y none 0 w' (hM.later hM'.below) hs (hM'.at_ (show rowF (pt a p.2.2.length) (cellsL p.2.2)∈_ from (by repeat (first | exact List.Mem.head _ | apply List.Mem.tail)))) h_y (hM'.at_ (show rowF (pt y dl.length) (cellsL dl)∈_ from (by repeat (first | exact List.Mem.head _ | apply List.Mem.tail)))) hl hdl hd hdd) ?_
   conv=>arg 5;whnf
   refine meet1F (f:=186) (n:=1) (v:=fun a1 c1=>planV (tellL (toL p (p.1,p.2.1,dl) ⟨0,t,[],0⟩) 3 [t]) ⟨y,c_y,a1,c1,none,0⟩) (xs:=cellsE (evL 3 [t])) rfl (by kernel_rfl) (fun β ρ w' hM'=>tell (toL p (p.1,p.2.1,dl) ⟨0,t,[],0⟩) ⟨y,c_y,none,0,none,0⟩ 3 [t] z 1 c_z w' rfl ⟨rfl,rfl⟩ h_z rfl (at_any 1 (hM'.at_ (show rowF (pt z 1) (cellsL [t])∈_ from (by repeat (first | exact List.Mem.head _ | apply List.Mem.tail))))) (by omega)) (fun b c_b h_b f_b=>?_)
   conv=>arg 5;whnf
   exact wp_back fun β ρ w' hM'=>plan_mk (p:=tellL (toL p (p.1,p.2.1,dl) ⟨0,t,[],0⟩) 3 [t]) ⟨y,c_y,b,c_b,none,0⟩ ⟨h_y,h_b,sl0⟩ rfl hM'.below (fun φ hφ g hg=>by simp only [Pn.fs,List.mem_cons,List.not_mem_nil,or_false] at hφ;rcases hφ with rfl | rfl | rfl;exact ⟨.inl (f_y g hg),(hM'.fact _ (by repeat (first | exact List.Mem.head _ | apply List.Mem.tail)) g hg).2⟩;exact ⟨.inl (f_b g hg),(hM'.fact _ (by repeat (first | exact List.Mem.head _ | apply List.Mem.tail)) g hg).2⟩;cases hg)
theorem add (C:Cf) (p:PA) (a:Option Addr) (c:Nat) (d:ByteArray) (w:World) (hM:Most w) (hs:Sl a p.2.2.length c) (hrow:At w (pt a p.2.2.length) (cellsL p.2.2)) (hl:p.2.2.length≤1000000) (hd:∀t∈p.2.2,t.d.size≤maxLen) (hdd:d.size≤1000000) :
  Calls Tryz.prog 231 (List.toArray [C.val,acc p.1 p.2.1 a p.2.2.length c,.string d]) w fun e w'=>PAns w w' [] e (addL C.per C.bp p d):=by
 have DE:=fun w hM=>decode_any d w hM (show d.size≤maxLen by unfold maxLen;omega)
 have hdt:∀t,dec d.data.toList=some t→t.d.size≤maxLen:=fun t ht=>by have:=(dec_some _ _ ht).1;unfold Tx.ok at this;have:=of_decide_eq_true this;unfold maxLen;omega
 refine calls_of_exec Sxk.env_ok.keeps.soon_ Tryz.func231 rfl [(11,(.one 0 (.one 1 (.one 2 (.one 4 (.one 6 (.one 7 (.fork 3 (.fork 5 (.one 8 (.one 9 (.one 10 (.done)))) 8 (.one 5 (.one 9 (.one 10 (.done))))) 8 (.one 3 (.one 5 (.one 9 (.one 10 (.done))))))))))),[2]))] (schedQ_ok _ _ (by kernel_rfl)) [rowF (pt a p.2.2.length) (cellsL p.2.2)] (at1 hrow) ?_
 cases hD:dec d.data.toList with
 | none=>
  have e:addL C.per C.bp p d=failL 2:=by unfold addL;rw [hD]
  rw [e]
  rw [hD] at DE
  conv=>arg 5;whnf
  refine meetc (f:=162) (v:=retDec none) rfl (by kernel_rfl) (fun β ρ w' hM'=>DE w' (hM.later hM'.below)) ?_
  conv=>arg 5;whnf
  refine meetPl (f:=183) (failL (2)) [] (by simp) rfl (by kernel_rfl) (fun β ρ w' hM'=>fail (2) w') (fun x hx hnew=>?_)
  conv=>arg 5;whnf
  exact wp_back fun β ρ w' hM'=>⟨x,hx,rfl,hM'.below,fun φ hφ g hg=>⟨hnew φ hφ g hg,(hM'.fact φ (List.mem_append_left _ hφ) g hg).2⟩⟩
 | some t=>
  have e:addL C.per C.bp p d=if (placeV p.1 p.2.1 C.per p.2.2 t C.bp).2=0 then tellL (toL p (p.1,p.2.1,putV t p.2.2) ⟨0,tx0,[],0⟩) (if (findV p.2.2 t.n).2=true then 2 else 1) [t] else failL (placeV p.1 p.2.1 C.per p.2.2 t C.bp).2:=by unfold addL;rw [hD]
  rw [e]
  clear e
  rw [hD] at DE
  have htd:=hdt t hD
  have PL:=fun w hM hr=>place p.1 p.2.1 C.per p.2.2 a p.2.2.length c t C.bp w hM hs rfl hr hd htd
  have hpo:=@pool.placeV_ok p.1 p.2.1 C.per p.2.2 t C.bp
  have FI:=fun w hr=>find p.1 p.2.1 p.2.2 a p.2.2.length c t.n w hs rfl hr
  have hpb:=putV_bd t p.2.2
  have PU:=fun w hr h=>queue.put p.1 p.2.1 p.2.2 a p.2.2.length c t w hs rfl hr h
  generalize placeV p.1 p.2.1 C.per p.2.2 t C.bp=q at *
  obtain ⟨q1,q2⟩:=q
  generalize findV p.2.2 t.n=fq at *
  obtain ⟨ft,fd⟩:=fq
  generalize putV t p.2.2=pl at *
  conv=>arg 5;whnf
  refine meetc (f:=162) (v:=retDec (some t)) rfl (by kernel_rfl) (fun β ρ w' hM'=>DE w' (hM.later hM'.below)) ?_
  conv=>arg 5;whnf
  refine meetc (f:=163) (v:=.tuple #[.int .i64 q1,.int .i64 q2]) rfl (by kernel_rfl) (fun β ρ w' hM'=>PL w' (hM.later hM'.below) (hM'.at_ (show rowF (pt a p.2.2.length) (cellsL p.2.2)∈_ from (by repeat (first | exact List.Mem.head _ | apply List.Mem.tail))))) ?_
  conv=>arg 5;whnf
  refine wp_br (fun h1=>?_) (fun h1=>?_)
  ·have h2:¬ q2=0:=fun h=>by rw [h] at h1;cases h1
   rw [if_neg h2]
   conv=>arg 5;whnf
   refine meetPl (f:=183) (failL (q2)) [] (by simp) rfl (by kernel_rfl) (fun β ρ w' hM'=>fail (q2) w') (fun x hx hnew=>?_)
   conv=>arg 5;whnf
   exact wp_back fun β ρ w' hM'=>⟨x,hx,rfl,hM'.below,fun φ hφ g hg=>⟨hnew φ hφ g hg,(hM'.fact φ (List.mem_append_left _ hφ) g hg).2⟩⟩
  have h2:q2=0:=by have:(!(q2==0))=false:=h1;simpa using this
  rw [if_pos h2]
  obtain ⟨k1,k2,k3,k4,k5,k6,k7⟩:=hpo h2
  have hpl:p.2.2.length≤100000:=by
   have k8:=checkV_base k1
   unfold checkV at k1
   simp only [Bool.and_eq_true,inB_iff,decide_eq_true_eq] at k1
   omega
  have hpl1:pl.length≤1000000:=by omega
  have hpld:∀x∈pl,x.d.size≤maxLen:=fun x hx=>(hpb.2 x hx).elim (hd x) fun h=>by rw [h];exact htd
  conv=>arg 5;whnf
  refine meetc (f:=165) (v:=.tuple #[ft.val,.bool fd]) rfl (by kernel_rfl) (fun β ρ w' hM'=>FI w' (hM'.at_ (show rowF (pt a p.2.2.length) (cellsL p.2.2)∈_ from (by repeat (first | exact List.Mem.head _ | apply List.Mem.tail))))) ?_
  cases fd with
  | false=>
   rw [show (if (ft,false).2=true then (2:Int) else 1)=1 from rfl]
   conv=>arg 5;whnf
   refine wp_both ?_ ?_
   ·(conv=>arg 5;whnf)
    refine meet1F (f:=167) (n:=pl.length) (v:=fun a1 c1=>acc p.1 p.2.1 a1 pl.length c1) (xs:=cellsL pl) rfl (by kernel_rfl) (fun β ρ w' hM'=>PU w' (hM'.at_ (show rowF (pt a p.2.2.length) (cellsL p.2.2)∈_ from (by repeat (first | exact List.Mem.head _ | apply List.Mem.tail)))) hpl) (fun y c_y h_y f_y=>?_)
    conv=>arg 5;whnf
    refine wp_both ?_ ?_
    ·(conv=>arg 5;whnf)
     refine meetc (f:=184) (v:=planV (toL p (p.1,p.2.1,pl) ⟨0,tx0,[],0⟩) ⟨y,c_y,none,0,none,0⟩) rfl (by kernel_rfl) (fun β ρ w' hM'=>become p (p.1,p.2.1,pl) ⟨0,tx0,[],0⟩ a c y c_y none 0 w' (hM.later hM'.below) hs (hM'.at_ (show rowF (pt a p.2.2.length) (cellsL p.2.2)∈_ from (by repeat (first | exact List.Mem.head _ | apply List.Mem.tail)))) h_y (hM'.at_ (show rowF (pt y pl.length) (cellsL pl)∈_ from (by repeat (first | exact List.Mem.head _ | apply List.Mem.tail)))) hl hpl1 hd hpld) ?_
     conv=>arg 5;whnf
     refine wp_share fun z c_z h_z f_z=>?_
     conv=>arg 5;whnf
     refine meet1F (f:=186) (n:=1) (v:=fun a1 c1=>planV (tellL (toL p (p.1,p.2.1,pl) ⟨0,tx0,[],0⟩) 1 [t]) ⟨y,c_y,a1,c1,none,0⟩) (xs:=cellsE (evL 1 [t])) rfl (by kernel_rfl) (fun β ρ w' hM'=>tell (toL p (p.1,p.2.1,pl) ⟨0,tx0,[],0⟩) ⟨y,c_y,none,0,none,0⟩ 1 [t] z 1 c_z w' rfl ⟨rfl,rfl⟩ h_z rfl (at_any 1 (hM'.at_ (show rowF (pt z 1) (cellsL [t])∈_ from (by repeat (first | exact List.Mem.head _ | apply List.Mem.tail))))) (by omega)) (fun b c_b h_b f_b=>?_)
     conv=>arg 5;whnf
     exact wp_back fun β ρ w' hM'=>plan_mk (p:=tellL (toL p (p.1,p.2.1,pl) ⟨0,tx0,[],0⟩) 1 [t]) ⟨y,c_y,b,c_b,none,0⟩ ⟨h_y,h_b,sl0⟩ rfl hM'.below (fun φ hφ g hg=>by simp only [Pn.fs,List.mem_cons,List.not_mem_nil,or_false] at hφ;rcases hφ with rfl | rfl | rfl;exact ⟨.inl (f_y g hg),(hM'.fact _ (by repeat (first | exact List.Mem.head _ | apply List.Mem.tail)) g hg).2⟩;exact ⟨.inl (f_b g hg),(hM'.fact _ (by repeat (first | exact List.Mem.head _ | apply List.Mem.tail)) g hg).2⟩;cases hg)
    ·(conv=>arg 5;whnf)
     refine wp_share fun z c_z h_z f_z=>?_
     conv=>arg 5;whnf
     refine meetc (f:=184) (v:=planV (toL p (p.1,p.2.1,pl) ⟨0,tx0,[],0⟩) ⟨y,c_y,none,0,none,0⟩) rfl (by kernel_rfl) (fun β ρ w' hM'=>become p (p.1,p.2.1,pl) ⟨0,tx0,[],0⟩ a c y c_y none 0 w' (hM.later hM'.below) hs (hM'.at_ (show rowF (pt a p.2.2.length) (cellsL p.2.2)∈_ from (by repeat (first | exact List.Mem.head _ | apply List.Mem.tail)))) h_y (hM'.at_ (show rowF (pt y pl.length) (cellsL pl)∈_ from (by repeat (first | exact List.Mem.head _ | apply List.Mem.tail)))) hl hpl1 hd hpld) ?_
     conv=>arg 5;whnf
     refine meet1F (f:=186) (n:=1) (v:=fun a1 c1=>planV (tellL (toL p (p.1,p.2.1,pl) ⟨0,tx0,[],0⟩) 1 [t]) ⟨y,c_y,a1,c1,none,0⟩) (xs:=cellsE (evL 1 [t])) rfl (by kernel_rfl) (fun β ρ w' hM'=>tell (toL p (p.1,p.2.1,pl) ⟨0,tx0,[],0⟩) ⟨y,c_y,none,0,none,0⟩ 1 [t] z 1 c_z w' rfl ⟨rfl,rfl⟩ h_z rfl (at_any 1 (hM'.at_ (show rowF (pt z 1) (cellsL [t])∈_ from (by repeat (first | exact List.Mem.head _ | apply List.Mem.tail))))) (by omega)) (fun b c_b h_b f_b=>?_)
     conv=>arg 5;whnf
     exact wp_back fun β ρ w' hM'=>plan_mk (p:=tellL (toL p (p.1,p.2.1,pl) ⟨0,tx0,[],0⟩) 1 [t]) ⟨y,c_y,b,c_b,none,0⟩ ⟨h_y,h_b,sl0⟩ rfl hM'.below (fun φ hφ g hg=>by simp only [Pn.fs,List.mem_cons,List.not_mem_nil,or_false] at hφ;rcases hφ with rfl | rfl | rfl;exact ⟨.inl (f_y g hg),(hM'.fact _ (by repeat (first | exact List.Mem.head _ | apply List.Mem.tail)) g hg).2⟩;exact ⟨.inl (f_b g hg),(hM'.fact _ (by repeat (first | exact List.Mem.head _ | apply List.Mem.tail)) g hg).2⟩;cases hg)
   ·(conv=>arg 5;whnf)
    refine wp_share fun z c_z h_z f_z=>?_
    conv=>arg 5;whnf
    refine meet1F (f:=167) (n:=pl.length) (v:=fun a1 c1=>acc p.1 p.2.1 a1 pl.length c1) (xs:=cellsL pl) rfl (by kernel_rfl) (fun β ρ w' hM'=>PU w' (hM'.at_ (show rowF (pt a p.2.2.length) (cellsL p.2.2)∈_ from (by repeat (first | exact List.Mem.head _ | apply List.Mem.tail)))) hpl) (fun y c_y h_y f_y=>?_)
    conv=>arg 5;whnf
    refine meetc (f:=184) (v:=planV (toL p (p.1,p.2.1,pl) ⟨0,tx0,[],0⟩) ⟨y,c_y,none,0,none,0⟩) rfl (by kernel_rfl) (fun β ρ w' hM'=>become p (p.1,p.2.1,pl) ⟨0,tx0,[],0⟩ a c y c_y none 0 w' (hM.later hM'.below) hs (hM'.at_ (show rowF (pt a p.2.2.length) (cellsL p.2.2)∈_ from (by repeat (first | exact List.Mem.head _ | apply List.Mem.tail)))) h_y (hM'.at_ (show rowF (pt y pl.length) (cellsL pl)∈_ from (by repeat (first | exact List.Mem.head _ | apply List.Mem.tail)))) hl hpl1 hd hpld) ?_
    conv=>arg 5;whnf
    refine meet1F (f:=186) (n:=1) (v:=fun a1 c1=>planV (tellL (toL p (p.1,p.2.1,pl) ⟨0,tx0,[],0⟩) 1 [t]) ⟨y,c_y,a1,c1,none,0⟩) (xs:=cellsE (evL 1 [t])) rfl (by kernel_rfl) (fun β ρ w' hM'=>tell (toL p (p.1,p.2.1,pl) ⟨0,tx0,[],0⟩) ⟨y,c_y,none,0,none,0⟩ 1 [t] z 1 c_z w' rfl ⟨rfl,rfl⟩ h_z rfl (at_any 1 (hM'.at_ (show rowF (pt z 1) (cellsL [t])∈_ from (by repeat (first | exact List.Mem.head _ | apply List.Mem.tail))))) (by omega)) (fun b c_b h_b f_b=>?_)
    conv=>arg 5;whnf
    exact wp_back fun β ρ w' hM'=>plan_mk (p:=tellL (toL p (p.1,p.2.1,pl) ⟨0,tx0,[],0⟩) 1 [t]) ⟨y,c_y,b,c_b,none,0⟩ ⟨h_y,h_b,sl0⟩ rfl hM'.below (fun φ hφ g hg=>by simp only [Pn.fs,List.mem_cons,List.not_mem_nil,or_false] at hφ;rcases hφ with rfl | rfl | rfl;exact ⟨.inl (f_y g hg),(hM'.fact _ (by repeat (first | exact List.Mem.head _ | apply List.Mem.tail)) g hg).2⟩;exact ⟨.inl (f_b g hg),(hM'.fact _ (by repeat (first | exact List.Mem.head _ | apply List.Mem.tail)) g hg).2⟩;cases hg)
  | true=>
   rw [show (if (ft,true).2=true then (2:Int) else 1)=2 from rfl]
   conv=>arg 5;whnf
   refine wp_both ?_ ?_
   ·(conv=>arg 5;whnf)
    refine meet1F (f:=167) (n:=pl.length) (v:=fun a1 c1=>acc p.1 p.2.1 a1 pl.length c1) (xs:=cellsL pl) rfl (by kernel_rfl) (fun β ρ w' hM'=>PU w' (hM'.at_ (show rowF (pt a p.2.2.length) (cellsL p.2.2)∈_ from (by repeat (first | exact List.Mem.head _ | apply List.Mem.tail)))) hpl) (fun y c_y h_y f_y=>?_)
    conv=>arg 5;whnf
    refine wp_both ?_ ?_
    ·(conv=>arg 5;whnf)
     refine meetc (f:=184) (v:=planV (toL p (p.1,p.2.1,pl) ⟨0,tx0,[],0⟩) ⟨y,c_y,none,0,none,0⟩) rfl (by kernel_rfl) (fun β ρ w' hM'=>become p (p.1,p.2.1,pl) ⟨0,tx0,[],0⟩ a c y c_y none 0 w' (hM.later hM'.below) hs (hM'.at_ (show rowF (pt a p.2.2.length) (cellsL p.2.2)∈_ from (by repeat (first | exact List.Mem.head _ | apply List.Mem.tail)))) h_y (hM'.at_ (show rowF (pt y pl.length) (cellsL pl)∈_ from (by repeat (first | exact List.Mem.head _ | apply List.Mem.tail)))) hl hpl1 hd hpld) ?_
     conv=>arg 5;whnf
     refine wp_share fun z c_z h_z f_z=>?_
     conv=>arg 5;whnf
     refine meet1F (f:=186) (n:=1) (v:=fun a1 c1=>planV (tellL (toL p (p.1,p.2.1,pl) ⟨0,tx0,[],0⟩) 2 [t]) ⟨y,c_y,a1,c1,none,0⟩) (xs:=cellsE (evL 2 [t])) rfl (by kernel_rfl) (fun β ρ w' hM'=>tell (toL p (p.1,p.2.1,pl) ⟨0,tx0,[],0⟩) ⟨y,c_y,none,0,none,0⟩ 2 [t] z 1 c_z w' rfl ⟨rfl,rfl⟩ h_z rfl (at_any 1 (hM'.at_ (show rowF (pt z 1) (cellsL [t])∈_ from (by repeat (first | exact List.Mem.head _ | apply List.Mem.tail))))) (by omega)) (fun b c_b h_b f_b=>?_)
     conv=>arg 5;whnf
     exact wp_back fun β ρ w' hM'=>plan_mk (p:=tellL (toL p (p.1,p.2.1,pl) ⟨0,tx0,[],0⟩) 2 [t]) ⟨y,c_y,b,c_b,none,0⟩ ⟨h_y,h_b,sl0⟩ rfl hM'.below (fun φ hφ g hg=>by simp only [Pn.fs,List.mem_cons,List.not_mem_nil,or_false] at hφ;rcases hφ with rfl | rfl | rfl;exact ⟨.inl (f_y g hg),(hM'.fact _ (by repeat (first | exact List.Mem.head _ | apply List.Mem.tail)) g hg).2⟩;exact ⟨.inl (f_b g hg),(hM'.fact _ (by repeat (first | exact List.Mem.head _ | apply List.Mem.tail)) g hg).2⟩;cases hg)
    ·(conv=>arg 5;whnf)
     refine wp_share fun z c_z h_z f_z=>?_
     conv=>arg 5;whnf
     refine meetc (f:=184) (v:=planV (toL p (p.1,p.2.1,pl) ⟨0,tx0,[],0⟩) ⟨y,c_y,none,0,none,0⟩) rfl (by kernel_rfl) (fun β ρ w' hM'=>become p (p.1,p.2.1,pl) ⟨0,tx0,[],0⟩ a c y c_y none 0 w' (hM.later hM'.below) hs (hM'.at_ (show rowF (pt a p.2.2.length) (cellsL p.2.2)∈_ from (by repeat (first | exact List.Mem.head _ | apply List.Mem.tail)))) h_y (hM'.at_ (show rowF (pt y pl.length) (cellsL pl)∈_ from (by repeat (first | exact List.Mem.head _ | apply List.Mem.tail)))) hl hpl1 hd hpld) ?_
     conv=>arg 5;whnf
     refine meet1F (f:=186) (n:=1) (v:=fun a1 c1=>planV (tellL (toL p (p.1,p.2.1,pl) ⟨0,tx0,[],0⟩) 2 [t]) ⟨y,c_y,a1,c1,none,0⟩) (xs:=cellsE (evL 2 [t])) rfl (by kernel_rfl) (fun β ρ w' hM'=>tell (toL p (p.1,p.2.1,pl) ⟨0,tx0,[],0⟩) ⟨y,c_y,none,0,none,0⟩ 2 [t] z 1 c_z w' rfl ⟨rfl,rfl⟩ h_z rfl (at_any 1 (hM'.at_ (show rowF (pt z 1) (cellsL [t])∈_ from (by repeat (first | exact List.Mem.head _ | apply List.Mem.tail))))) (by omega)) (fun b c_b h_b f_b=>?_)
     conv=>arg 5;whnf
     exact wp_back fun β ρ w' hM'=>plan_mk (p:=tellL (toL p (p.1,p.2.1,pl) ⟨0,tx0,[],0⟩) 2 [t]) ⟨y,c_y,b,c_b,none,0⟩ ⟨h_y,h_b,sl0⟩ rfl hM'.below (fun φ hφ g hg=>by simp only [Pn.fs,List.mem_cons,List.not_mem_nil,or_false] at hφ;rcases hφ with rfl | rfl | rfl;exact ⟨.inl (f_y g hg),(hM'.fact _ (by repeat (first | exact List.Mem.head _ | apply List.Mem.tail)) g hg).2⟩;exact ⟨.inl (f_b g hg),(hM'.fact _ (by repeat (first | exact List.Mem.head _ | apply List.Mem.tail)) g hg).2⟩;cases hg)
   ·(conv=>arg 5;whnf)
    refine wp_share fun z c_z h_z f_z=>?_
    conv=>arg 5;whnf
    refine meet1F (f:=167) (n:=pl.length) (v:=fun a1 c1=>acc p.1 p.2.1 a1 pl.length c1) (xs:=cellsL pl) rfl (by kernel_rfl) (fun β ρ w' hM'=>PU w' (hM'.at_ (show rowF (pt a p.2.2.length) (cellsL p.2.2)∈_ from (by repeat (first | exact List.Mem.head _ | apply List.Mem.tail)))) hpl) (fun y c_y h_y f_y=>?_)
    conv=>arg 5;whnf
    refine meetc (f:=184) (v:=planV (toL p (p.1,p.2.1,pl) ⟨0,tx0,[],0⟩) ⟨y,c_y,none,0,none,0⟩) rfl (by kernel_rfl) (fun β ρ w' hM'=>become p (p.1,p.2.1,pl) ⟨0,tx0,[],0⟩ a c y c_y none 0 w' (hM.later hM'.below) hs (hM'.at_ (show rowF (pt a p.2.2.length) (cellsL p.2.2)∈_ from (by repeat (first | exact List.Mem.head _ | apply List.Mem.tail)))) h_y (hM'.at_ (show rowF (pt y pl.length) (cellsL pl)∈_ from (by repeat (first | exact List.Mem.head _ | apply List.Mem.tail)))) hl hpl1 hd hpld) ?_
    conv=>arg 5;whnf
    refine meet1F (f:=186) (n:=1) (v:=fun a1 c1=>planV (tellL (toL p (p.1,p.2.1,pl) ⟨0,tx0,[],0⟩) 2 [t]) ⟨y,c_y,a1,c1,none,0⟩) (xs:=cellsE (evL 2 [t])) rfl (by kernel_rfl) (fun β ρ w' hM'=>tell (toL p (p.1,p.2.1,pl) ⟨0,tx0,[],0⟩) ⟨y,c_y,none,0,none,0⟩ 2 [t] z 1 c_z w' rfl ⟨rfl,rfl⟩ h_z rfl (at_any 1 (hM'.at_ (show rowF (pt z 1) (cellsL [t])∈_ from (by repeat (first | exact List.Mem.head _ | apply List.Mem.tail))))) (by omega)) (fun b c_b h_b f_b=>?_)
    conv=>arg 5;whnf
    exact wp_back fun β ρ w' hM'=>plan_mk (p:=tellL (toL p (p.1,p.2.1,pl) ⟨0,tx0,[],0⟩) 2 [t]) ⟨y,c_y,b,c_b,none,0⟩ ⟨h_y,h_b,sl0⟩ rfl hM'.below (fun φ hφ g hg=>by simp only [Pn.fs,List.mem_cons,List.not_mem_nil,or_false] at hφ;rcases hφ with rfl | rfl | rfl;exact ⟨.inl (f_y g hg),(hM'.fact _ (by repeat (first | exact List.Mem.head _ | apply List.Mem.tail)) g hg).2⟩;exact ⟨.inl (f_b g hg),(hM'.fact _ (by repeat (first | exact List.Mem.head _ | apply List.Mem.tail)) g hg).2⟩;cases hg)
theorem sends (n:Int) (w:World):Calls Tryz.prog 230 (List.toArray [.int .i64 n]) w fun e w'=>e=.returned (.bool (inB n 0 255))∧Below w.heap.size w w':=by
 refine calls_of_exec Sxk.env_ok.keeps.soon_ Tryz.func230 rfl [] (schedQ_ok _ _ (by kernel_rfl)) [] (by simp) ?_
 conv=>arg 5;whnf
 refine wp_g1 (fun h1=>?_) (fun h1=>?_)
 ·have e:inB n 0 255=decide (n≤255):=by unfold inB;rw [h1,Bool.true_and]
  rw [e]
  conv=>arg 5;whnf
  exact wp_back fun β ρ w' hM'=>⟨rfl,hM'.below⟩
 ·have e:inB n 0 255=false:=by unfold inB;rw [h1,Bool.false_and]
  rw [e]
  conv=>arg 5;whnf
  exact wp_back fun β ρ w' hM'=>⟨rfl,hM'.below⟩
theorem advance (p:PA) (a:Option Addr) (c:Nat) (v:Int) (w:World) (hM:Most w) (hs:Sl a p.2.2.length c) (hrow:At w (pt a p.2.2.length) (cellsL p.2.2)) (hl:p.2.2.length≤1000000) (hd:∀t∈p.2.2,t.d.size≤maxLen) :
  Calls Tryz.prog 232 (List.toArray [acc p.1 p.2.1 a p.2.2.length c,.int .i64 v]) w fun e w'=>PAns w w' [] e (advL p v):=by
 have WI:=fun w=>sends p.1 w
 have e:advL p v=if inB p.1 0 255=true then (if advV p.2.1 v=0 then tellL (toL p (p.1,v,above v p.2.2) ⟨0,tx0,below v p.2.2,0⟩) 3 (below v p.2.2) else failL (advV p.2.1 v)) else failL 1:=rfl
 rw [e]
 clear e
 generalize inB p.1 0 255=ib at *
 refine calls_of_exec Sxk.env_ok.keeps.soon_ Tryz.func232 rfl [] (schedQ_ok _ _ (by kernel_rfl)) [rowF (pt a p.2.2.length) (cellsL p.2.2)] (at1 hrow) ?_
 conv=>arg 5;whnf
 refine meetc (f:=230) (v:=.bool ib) rfl (by kernel_rfl) (fun β ρ w' hM'=>WI w') ?_
 cases ib with
 | false=>
  rw [if_neg (by simp)]
  conv=>arg 5;whnf
  refine meetPl (f:=183) (failL (1)) [] (by simp) rfl (by kernel_rfl) (fun β ρ w' hM'=>fail (1) w') (fun x hx hnew=>?_)
  conv=>arg 5;whnf
  exact wp_back fun β ρ w' hM'=>⟨x,hx,rfl,hM'.below,fun φ hφ g hg=>⟨hnew φ hφ g hg,(hM'.fact φ (List.mem_append_left _ hφ) g hg).2⟩⟩
 | true=>
  rw [if_pos rfl]
  by_cases hav:advV p.2.1 v=0
  ·rw [if_pos hav]
   have AD:=fun w hr=>advance_ok p.1 p.2.1 p.2.2 a p.2.2.length c v w hs rfl hr hl hav
   have hal:(above v p.2.2).length≤1000000:=Nat.le_trans (List.length_filter_le ..) hl
   have had:∀t∈above v p.2.2,t.d.size≤maxLen:=fun t ht=>hd t (List.mem_filter.1 ht).1
   have hbl:(below v p.2.2).length≤1000000:=Nat.le_trans (List.length_filter_le ..) hl
   generalize above v p.2.2=al at *
   generalize below v p.2.2=bl at *
   conv=>arg 5;whnf
   refine meet2F (f:=170) (n:=al.length) (n2:=bl.length) (v:=fun a1 c1 a2 c2=>.tuple #[acc p.1 v a1 al.length c1,.slice a2 bl.length c2,.int .i64 0]) (xs:=cellsL al) (ys:=cellsL bl) rfl (by kernel_rfl) (fun β ρ w' hM'=>AD w' (hM'.at_ (show rowF (pt a p.2.2.length) (cellsL p.2.2)∈_ from (by repeat (first | exact List.Mem.head _ | apply List.Mem.tail))))) (fun y c_y z c_z h_y h_z f_yz=>?_)
   conv=>arg 5;whnf
   refine meetc (f:=184) (v:=planV (toL p (p.1,v,al) ⟨0,tx0,bl,0⟩) ⟨y,c_y,none,0,z,c_z⟩) rfl (by kernel_rfl) (fun β ρ w' hM'=>become p (p.1,v,al) ⟨0,tx0,bl,0⟩ a c y c_y z c_z w' (hM.later hM'.below) hs (hM'.at_ (show rowF (pt a p.2.2.length) (cellsL p.2.2)∈_ from (by repeat (first | exact List.Mem.head _ | apply List.Mem.tail)))) h_y (hM'.at_ (show rowF (pt y al.length) (cellsL al)∈_ from (by repeat (first | exact List.Mem.head _ | apply List.Mem.tail)))) hl hal hd had) ?_
   conv=>arg 5;whnf
   refine meet1F (f:=186) (n:=bl.length) (v:=fun a1 c1=>planV (tellL (toL p (p.1,v,al) ⟨0,tx0,bl,0⟩) 3 bl) ⟨y,c_y,a1,c1,z,c_z⟩) (xs:=cellsE (evL 3 bl)) rfl (by kernel_rfl) (fun β ρ w' hM'=>tell (toL p (p.1,v,al) ⟨0,tx0,bl,0⟩) ⟨y,c_y,none,0,z,c_z⟩ 3 bl z bl.length c_z w' rfl ⟨rfl,rfl⟩ h_z rfl (hM'.at_ (show rowF (pt z bl.length) (cellsL bl)∈_ from (by repeat (first | exact List.Mem.head _ | apply List.Mem.tail)))) hbl) (fun b c_b h_b f_b=>?_)
   conv=>arg 5;whnf
   exact wp_back fun β ρ w' hM'=>plan_mk (p:=tellL (toL p (p.1,v,al) ⟨0,tx0,bl,0⟩) 3 bl) ⟨y,c_y,b,c_b,z,c_z⟩ ⟨h_y,by show Sl b (evL 3 bl).length c_b;rw [evL_len];exact h_b,h_z⟩ rfl hM'.below (fun φ hφ g hg=>by simp only [Pn.fs,List.mem_cons,List.not_mem_nil,or_false] at hφ;rcases hφ with rfl | rfl | rfl;exact ⟨.inl (f_yz _ (.head _) g hg),(hM'.fact (rowF (pt y al.length) (cellsL al)) (by repeat (first | exact List.Mem.head _ | apply List.Mem.tail)) g hg).2⟩;(have hg:=hg;rw [show (tellL (toL p (p.1,v,al) ⟨0,tx0,bl,0⟩) 3 bl).ev.length=bl.length from evL_len 3 bl] at hg ⊢;exact ⟨.inl (f_b g hg),(hM'.fact (rowF (pt b bl.length) (cellsE (evL 3 bl))) (by repeat (first | exact List.Mem.head _ | apply List.Mem.tail)) g hg).2⟩);exact ⟨.inl (f_yz _ (.tail _ (.head _)) g hg),(hM'.fact (rowF (pt z bl.length) (cellsL bl)) (by repeat (first | exact List.Mem.head _ | apply List.Mem.tail)) g hg).2⟩)
  ·rw [if_neg hav]
   have AD:=fun w hr=>advance_no p.1 p.2.1 p.2.2 a p.2.2.length c v w hs rfl hr hl hav
   generalize advV p.2.1 v=av at *
   conv=>arg 5;whnf
   refine meet1F (f:=170) (n:=p.2.2.length) (v:=fun a1 c1=>.tuple #[acc p.1 p.2.1 a1 p.2.2.length c1,.slice none 0 0,.int .i64 av]) (xs:=cellsL p.2.2) rfl (by kernel_rfl) (fun β ρ w' hM'=>AD w' (hM'.at_ (show rowF (pt a p.2.2.length) (cellsL p.2.2)∈_ from (by repeat (first | exact List.Mem.head _ | apply List.Mem.tail))))) (fun y c_y h_y f_y=>?_)
   conv=>arg 5;whnf
   refine wp_br (fun h1=>?_) (fun h1=>?_)
   ·(conv=>arg 5;whnf)
    refine meetPl (f:=183) (failL (av)) [] (by simp) rfl (by kernel_rfl) (fun β ρ w' hM'=>fail (av) w') (fun x hx hnew=>?_)
    conv=>arg 5;whnf
    exact wp_back fun β ρ w' hM'=>⟨x,hx,rfl,hM'.below,fun φ hφ g hg=>⟨hnew φ hφ g hg,(hM'.fact φ (List.mem_append_left _ hφ) g hg).2⟩⟩
   ·have h2:(!(av==0))=false:=h1
    exact absurd (by simpa using h2) hav
theorem look (C:Cf) (p:PA) (a:Option Addr) (c:Nat) (O:Oq) (w:World) (hM:Most w) (hs:Sl a p.2.2.length c) (hrow:At w (pt a p.2.2.length) (cellsL p.2.2)) (hl:p.2.2.length≤1000000) (hd:∀t∈p.2.2,t.d.size≤maxLen) (hO:O.d.size≤1000000) :
  Calls Tryz.prog 200 (List.toArray [C.val,acc p.1 p.2.1 a p.2.2.length c,O.val]) w fun e w'=>PAns w w' [] e (lookL C.per C.bp p O):=by
 refine calls_of_exec Sxk.env_ok.keeps.soon_ Tryz.func200 rfl [] (schedQ_ok _ _ (by kernel_rfl)) [rowF (pt a p.2.2.length) (cellsL p.2.2)] (at1 hrow) ?_
 conv=>arg 5;whnf
 refine wp_br (fun h0=>?_) (fun h0=>?_)
 ·have k0:O.k=0:=by have:(O.k==0)=true:=h0;simpa using this
  have e:lookL C.per C.bp p O=addL C.per C.bp p O.d:=by unfold lookL;rw [if_pos k0]
  rw [e]
  conv=>arg 5;whnf
  refine meetPl (f:=231) (addL C.per C.bp p O.d) [] (by simp) rfl (by kernel_rfl) (fun β ρ w' hM'=>add C p a c O.d w' (hM.later hM'.below) hs (hM'.at_ (show rowF (pt a p.2.2.length) (cellsL p.2.2)∈_ from (by repeat (first | exact List.Mem.head _ | apply List.Mem.tail)))) hl hd hO) (fun x hx hnew=>?_)
  conv=>arg 5;whnf
  exact wp_back fun β ρ w' hM'=>⟨x,hx,rfl,hM'.below,fun φ hφ g hg=>⟨hnew φ hφ g hg,(hM'.fact φ (List.mem_append_left _ hφ) g hg).2⟩⟩
 have k0:¬ O.k=0:=by have:(O.k==0)=false:=h0;simpa using this
 conv=>arg 5;whnf
 refine wp_br (fun h1=>?_) (fun h1=>?_)
 ·have k1:O.k=1:=by have:(O.k==1)=true:=h1;simpa using this
  have e:lookL C.per C.bp p O=dropL p O.v:=by unfold lookL;rw [if_neg k0];rw [if_pos k1]
  rw [e]
  conv=>arg 5;whnf
  refine meetPl (f:=127) (dropL p O.v) [] (by simp) rfl (by kernel_rfl) (fun β ρ w' hM'=>drop p a c O.v w' (hM.later hM'.below) hs (hM'.at_ (show rowF (pt a p.2.2.length) (cellsL p.2.2)∈_ from (by repeat (first | exact List.Mem.head _ | apply List.Mem.tail)))) hl hd) (fun x hx hnew=>?_)
  conv=>arg 5;whnf
  exact wp_back fun β ρ w' hM'=>⟨x,hx,rfl,hM'.below,fun φ hφ g hg=>⟨hnew φ hφ g hg,(hM'.fact φ (List.mem_append_left _ hφ) g hg).2⟩⟩
 have k1:¬ O.k=1:=by have:(O.k==1)=false:=h1;simpa using this
 conv=>arg 5;whnf
 refine wp_br (fun h2=>?_) (fun h2=>?_)
 ·have k2:O.k=2:=by have:(O.k==2)=true:=h2;simpa using this
  have e:lookL C.per C.bp p O=advL p O.v:=by unfold lookL;rw [if_neg k0];rw [if_neg k1];rw [if_pos k2]
  rw [e]
  conv=>arg 5;whnf
  refine meetPl (f:=232) (advL p O.v) [] (by simp) rfl (by kernel_rfl) (fun β ρ w' hM'=>advance p a c O.v w' (hM.later hM'.below) hs (hM'.at_ (show rowF (pt a p.2.2.length) (cellsL p.2.2)∈_ from (by repeat (first | exact List.Mem.head _ | apply List.Mem.tail)))) hl hd) (fun x hx hnew=>?_)
  conv=>arg 5;whnf
  exact wp_back fun β ρ w' hM'=>⟨x,hx,rfl,hM'.below,fun φ hφ g hg=>⟨hnew φ hφ g hg,(hM'.fact φ (List.mem_append_left _ hφ) g hg).2⟩⟩
 have k2:¬ O.k=2:=by have:(O.k==2)=false:=h2;simpa using this
 conv=>arg 5;whnf
 refine wp_br (fun h3=>?_) (fun h3=>?_)
 ·have k3:O.k=3:=by have:(O.k==3)=true:=h3;simpa using this
  have e:lookL C.per C.bp p O=getL p O.v:=by unfold lookL;rw [if_neg k0];rw [if_neg k1];rw [if_neg k2];rw [if_pos k3]
  rw [e]
  conv=>arg 5;whnf
  refine meetPl (f:=233) (getL p O.v) [] (by simp) rfl (by kernel_rfl) (fun β ρ w' hM'=>get p a c O.v w' hs (hM'.at_ (show rowF (pt a p.2.2.length) (cellsL p.2.2)∈_ from (by repeat (first | exact List.Mem.head _ | apply List.Mem.tail)))) hl hd) (fun x hx hnew=>?_)
  conv=>arg 5;whnf
  exact wp_back fun β ρ w' hM'=>⟨x,hx,rfl,hM'.below,fun φ hφ g hg=>⟨hnew φ hφ g hg,(hM'.fact φ (List.mem_append_left _ hφ) g hg).2⟩⟩
 have k3:¬ O.k=3:=by have:(O.k==3)=false:=h3;simpa using this
 have e:lookL C.per C.bp p O=failL 1:=by unfold lookL;rw [if_neg k0,if_neg k1,if_neg k2,if_neg k3]
 rw [e]
 conv=>arg 5;whnf
 refine meetPl (f:=183) (failL (1)) [] (by simp) rfl (by kernel_rfl) (fun β ρ w' hM'=>fail (1) w') (fun x hx hnew=>?_)
 conv=>arg 5;whnf
 exact wp_back fun β ρ w' hM'=>⟨x,hx,rfl,hM'.below,fun φ hφ g hg=>⟨hnew φ hφ g hg,(hM'.fact φ (List.mem_append_left _ hφ) g hg).2⟩⟩
theorem full (p:Pl) (x:Pn) (w:World) (hs:Sl x.ta p.r.l.length x.tc) (hrow:At w (pt x.ta p.r.l.length) (cellsL p.r.l)) (hl:p.r.l.length≤1000000) :
  Calls Tryz.prog 201 (List.toArray [planV p x]) w fun e w'=>∃i:One,Sl i.1 (fullL p).l.length i.2∧Gives w w' e (resV (fullL p) i.1 i.2) [rowF (pt i.1 (fullL p).l.length) (cellsL (fullL p).l)]:=by
 refine calls_of_exec Sxk.env_ok.keeps.soon_ Tryz.func201 rfl [] (schedQ_ok _ _ (by kernel_rfl)) [rowF (pt x.ta p.r.l.length) (cellsL p.r.l)] (at1 hrow) ?_
 conv=>arg 5;whnf
 refine wp_g1 (fun h1=>?_) (fun h1=>?_)
 ·skip
  conv=>arg 5;whnf
  refine wp_br (fun h2=>?_) (fun h2=>?_)
  ·have e:fullL p=⟨6,tx0,[],0⟩:=if_pos ⟨h1,of_decide_eq_true h2⟩
   rw [e]
   conv=>arg 5;whnf
   refine wp_back fun β ρ w' hM'=>⟨(none,0),sl0,rfl,hM'.below,fun φ hφ g hg=>?_⟩
   simp only [List.mem_singleton] at hφ
   subst hφ
   cases hg
  ·have e:fullL p=p.r:=if_neg (fun h=>by have h3:¬ (p.dl>0):=of_decide_eq_false h2;exact h3 h.2)
   rw [e]
   conv=>arg 5;whnf
   refine meetM p.r.l.length (cellsL p.r.l) rfl (by kernel_rfl) (fun β ρ w' hM'=>clone p.r.l x.ta p.r.l.length x.tc w' hs rfl (hM'.at_ (.head _)) hl) ?_
   conv=>arg 5;whnf
   refine wp_share fun u c_u h_u f_u=>?_
   conv=>arg 5;whnf
   refine wp_back fun β ρ w' hM'=>⟨(u,c_u),h_u,rfl,hM'.below,fun φ hφ=>?_⟩
   simp only [List.mem_singleton] at hφ
   subst hφ
   exact giveF _ hM' (.head _) f_u
 ·have e:fullL p=p.r:=if_neg (fun h=>by rw [h.1] at h1;cases h1)
  rw [e]
  conv=>arg 5;whnf
  refine meetM p.r.l.length (cellsL p.r.l) rfl (by kernel_rfl) (fun β ρ w' hM'=>clone p.r.l x.ta p.r.l.length x.tc w' hs rfl (hM'.at_ (.head _)) hl) ?_
  conv=>arg 5;whnf
  refine wp_share fun u c_u h_u f_u=>?_
  conv=>arg 5;whnf
  refine wp_back fun β ρ w' hM'=>⟨(u,c_u),h_u,rfl,hM'.below,fun φ hφ=>?_⟩
  simp only [List.mem_singleton] at hφ
  subst hφ
  exact giveF _ hM' (.head _) f_u
theorem whose (O:Oq) (w:World) (hM:Most w) (hO:O.d.size≤maxLen) :
  Calls Tryz.prog 199 (List.toArray [O.val]) w fun e w'=>e=.returned (.tuple #[.int .i64 (whoL O).1,.bool (whoL O).2])∧Below w.heap.size w w':=by
 have DE:=fun w hM=>decode_any O.d w hM hO
 refine calls_of_exec Sxk.env_ok.keeps.soon_ Tryz.func199 rfl [] (schedQ_ok _ _ (by kernel_rfl)) [] (by simp) ?_
 conv=>arg 5;whnf
 refine wp_br (fun h0=>?_) (fun h0=>?_)
 ·have k0:O.k=0:=by have:(O.k==0)=true:=h0;simpa using this
  cases hD:dec O.d.data.toList with
  | none=>
   have e:whoL O=(0,false):=by unfold whoL;rw [if_pos k0,hD]
   rw [e]
   rw [hD] at DE
   conv=>arg 5;whnf
   refine meetc (f:=162) (v:=retDec none) rfl (by kernel_rfl) (fun β ρ w' hM'=>DE w' (hM.later hM'.below)) ?_
   conv=>arg 5;whnf
   exact wp_back fun β ρ w' hM'=>⟨rfl,hM'.below⟩
  | some t=>
   have e:whoL O=(t.s,true):=by unfold whoL;rw [if_pos k0,hD]
   rw [e]
   rw [hD] at DE
   conv=>arg 5;whnf
   refine meetc (f:=162) (v:=retDec (some t)) rfl (by kernel_rfl) (fun β ρ w' hM'=>DE w' (hM.later hM'.below)) ?_
   conv=>arg 5;whnf
   exact wp_back fun β ρ w' hM'=>⟨rfl,hM'.below⟩
 have k0:¬ O.k=0:=by have:(O.k==0)=false:=h0;simpa using this
 have e:whoL O=if (O.k=1∨O.k=2∨O.k=3)∧0≤O.s∧O.s≤255 then (O.s,true) else (0,false):=by unfold whoL;rw [if_neg k0]
 rw [e]
 clear e
 have SE:=fun w=>sends O.s w
 conv=>arg 5;whnf
 refine wp_br (fun h1=>?_) (fun h1=>?_)
 ·have k1:O.k=1:=by have:(O.k==1)=true:=h1;simpa using this
  cases hb:inB O.s 0 255 with
  | true=>
   rw [hb] at SE
   rw [if_pos ⟨.inl k1,inB_iff.1 hb⟩]
   conv=>arg 5;whnf
   refine meetc (f:=230) (v:=.bool true) rfl (by kernel_rfl) (fun β ρ w' hM'=>SE w') ?_
   conv=>arg 5;whnf
   exact wp_back fun β ρ w' hM'=>⟨rfl,hM'.below⟩
  | false=>
   rw [hb] at SE
   rw [if_neg (fun h=>inB_no hb h.2)]
   conv=>arg 5;whnf
   refine meetc (f:=230) (v:=.bool false) rfl (by kernel_rfl) (fun β ρ w' hM'=>SE w') ?_
   conv=>arg 5;whnf
   exact wp_back fun β ρ w' hM'=>⟨rfl,hM'.below⟩
 have k1:¬ O.k=1:=by have:(O.k==1)=false:=h1;simpa using this
 conv=>arg 5;whnf
 refine wp_br (fun h2=>?_) (fun h2=>?_)
 ·have k2:O.k=2:=by have:(O.k==2)=true:=h2;simpa using this
  cases hb:inB O.s 0 255 with
  | true=>
   rw [hb] at SE
   rw [if_pos ⟨.inr (.inl k2),inB_iff.1 hb⟩]
   conv=>arg 5;whnf
   refine meetc (f:=230) (v:=.bool true) rfl (by kernel_rfl) (fun β ρ w' hM'=>SE w') ?_
   conv=>arg 5;whnf
   exact wp_back fun β ρ w' hM'=>⟨rfl,hM'.below⟩
  | false=>
   rw [hb] at SE
   rw [if_neg (fun h=>inB_no hb h.2)]
   conv=>arg 5;whnf
   refine meetc (f:=230) (v:=.bool false) rfl (by kernel_rfl) (fun β ρ w' hM'=>SE w') ?_
   conv=>arg 5;whnf
   exact wp_back fun β ρ w' hM'=>⟨rfl,hM'.below⟩
 have k2:¬ O.k=2:=by have:(O.k==2)=false:=h2;simpa using this
 conv=>arg 5;whnf
 refine wp_br (fun h3=>?_) (fun h3=>?_)
 ·have k3:O.k=3:=by have:(O.k==3)=true:=h3;simpa using this
  cases hb:inB O.s 0 255 with
  | true=>
   rw [hb] at SE
   rw [if_pos ⟨.inr (.inr k3),inB_iff.1 hb⟩]
   conv=>arg 5;whnf
   refine meetc (f:=230) (v:=.bool true) rfl (by kernel_rfl) (fun β ρ w' hM'=>SE w') ?_
   conv=>arg 5;whnf
   exact wp_back fun β ρ w' hM'=>⟨rfl,hM'.below⟩
  | false=>
   rw [hb] at SE
   rw [if_neg (fun h=>inB_no hb h.2)]
   conv=>arg 5;whnf
   refine meetc (f:=230) (v:=.bool false) rfl (by kernel_rfl) (fun β ρ w' hM'=>SE w') ?_
   conv=>arg 5;whnf
   exact wp_back fun β ρ w' hM'=>⟨rfl,hM'.below⟩
 have k3:¬ O.k=3:=by have:(O.k==3)=false:=h3;simpa using this
 rw [if_neg (fun h=>by have:=h.1;omega)]
 conv=>arg 5;whnf
 exact wp_back fun β ρ w' hM'=>⟨rfl,hM'.below⟩
end Go.Proofs.YtfhgkkcpkcjbmaaGreatDoor.look
namespace Go.Proofs.YtfhgkkcpkcjbmaaGreatDoor.look
open Go.RowKit Sx txn queue greedy shard pool
theorem addL_cases (per bump:Int) (p:PA) (d:ByteArray):(∃e,e≠0∧addL per bump p d=failL e)∨∃t κ,dec d.data.toList=some t∧(placeV p.1 p.2.1 per p.2.2 t bump).2=0∧κ=(if (findV p.2.2 t.n).2=true then 2 else 1)∧addL per bump p d=⟨true,slotsL (putV t p.2.2) - slotsL p.2.2,p.1,p.2.1,putV t p.2.2,[(κ,t)],⟨0,tx0,[],0⟩⟩:=by
 unfold addL
 cases hD:dec d.data.toList with
 | none=>exact .inl ⟨2,by decide,rfl⟩
 | some t=>
  by_cases h:(placeV p.1 p.2.1 per p.2.2 t bump).2=0
  ·exact .inr ⟨t,_,rfl,h,rfl,by simp only [if_pos h];rfl⟩
  ·exact .inl ⟨_,h,by simp only [if_neg h]⟩
theorem dropL_cases (p:PA) (v:Int):dropL p v=failL 7∨∃t,findV p.2.2 v=(t,true)∧dropL p v=⟨true,slotsL (dropV v p.2.2) - slotsL p.2.2,p.1,p.2.1,dropV v p.2.2,[(3,t)],⟨0,t,[],0⟩⟩:=by
 unfold dropL
 cases h:findV p.2.2 v with
 | mk t b=>
  cases b with
  | false=>exact .inl rfl
  | true=>exact .inr ⟨t,rfl,rfl⟩
theorem getL_cases (p:PA) (v:Int):getL p v=failL 7∨∃t,findV p.2.2 v=(t,true)∧getL p v=⟨false,0,0,0,[],[],⟨0,t,[],0⟩⟩:=by
 unfold getL
 cases h:findV p.2.2 v with
 | mk t b=>
  cases b with
  | false=>exact .inl rfl
  | true=>exact .inr ⟨t,rfl,rfl⟩
theorem advL_cases (p:PA) (y:Int):(∃e,e≠0∧advL p y=failL e)∨(0≤p.1∧p.1≤255∧advV p.2.1 y=0∧advL p y=⟨chK (!(y==p.2.1)) (below y p.2.2).length,slotsL (above y p.2.2) - slotsL p.2.2,p.1,y,above y p.2.2,evL 3 (below y p.2.2),⟨0,tx0,below y p.2.2,0⟩⟩):=by
 unfold advL
 by_cases h1:inB p.1 0 255=true
 ·rw [if_pos h1]
  by_cases h2:advV p.2.1 y=0
  ·rw [if_pos h2]
   have h3:=inB_iff.1 h1
   exact .inr ⟨h3.1,h3.2,h2,rfl⟩
  ·rw [if_neg h2]
   exact .inl ⟨_,h2,rfl⟩
 ·rw [if_neg h1]
  exact .inl ⟨1,by decide,rfl⟩
theorem lookL_cases (per bump:Int) (p:PA) (O:Oq):(∃e,e≠0∧lookL per bump p O=failL e)∨(O.k=0∧lookL per bump p O=addL per bump p O.d)∨(O.k=1∧lookL per bump p O=dropL p O.v)∨(O.k=2∧lookL per bump p O=advL p O.v)∨(O.k=3∧lookL per bump p O=getL p O.v):=by
 unfold lookL
 by_cases h0:O.k=0
 ·exact .inr (.inl ⟨h0,if_pos h0⟩)
 rw [if_neg h0]
 by_cases h1:O.k=1
 ·exact .inr (.inr (.inl ⟨h1,if_pos h1⟩))
 rw [if_neg h1]
 by_cases h2:O.k=2
 ·exact .inr (.inr (.inr (.inl ⟨h2,if_pos h2⟩)))
 rw [if_neg h2]
 by_cases h3:O.k=3
 ·exact .inr (.inr (.inr (.inr ⟨h3,if_pos h3⟩)))
 exact .inl ⟨1,by decide,if_neg h3⟩
theorem lookL_r (per bump:Int) (p:PA) (O:Oq):(lookL per bump p O).r.l.length≤p.2.2.length∧(lookL per bump p O).l.length≤p.2.2.length+1∧(lookL per bump p O).ev.length≤p.2.2.length+1:=by
 rcases lookL_cases per bump p O with ⟨e,_,h⟩ | ⟨_,h⟩ | ⟨_,h⟩ | ⟨_,h⟩ | ⟨_,h⟩ <;> rw [h]
 ·exact ⟨Nat.zero_le _,Nat.zero_le _,Nat.zero_le _⟩
 ·rcases addL_cases per bump p O.d with ⟨e,_,h⟩ | ⟨t,κ,_,_,_,h⟩ <;> rw [h]
  ·exact ⟨Nat.zero_le _,Nat.zero_le _,Nat.zero_le _⟩
  ·exact ⟨Nat.zero_le _,(putV_bd t p.2.2).1,by show 1≤_;omega⟩
 ·rcases dropL_cases p O.v with h | ⟨t,_,h⟩ <;> rw [h]
  ·exact ⟨Nat.zero_le _,Nat.zero_le _,Nat.zero_le _⟩
  ·exact ⟨Nat.zero_le _,Nat.le_trans (List.length_filter_le ..) (Nat.le_succ _),by show 1≤_;omega⟩
 ·rcases advL_cases p O.v with ⟨e,_,h⟩ | ⟨_,_,_,h⟩ <;> rw [h]
  ·exact ⟨Nat.zero_le _,Nat.zero_le _,Nat.zero_le _⟩
  ·exact ⟨List.length_filter_le ..,Nat.le_trans (List.length_filter_le ..) (Nat.le_succ _),by show (evL 3 _).length≤_;rw [evL_len];exact Nat.le_trans (List.length_filter_le ..) (Nat.le_succ _)⟩
 ·rcases getL_cases p O.v with h | ⟨t,_,h⟩ <;> rw [h] <;> exact ⟨Nat.zero_le _,Nat.zero_le _,Nat.zero_le _⟩
theorem lookL_d {per bump:Int} {p:PA} {O:Oq} (hd:∀t∈p.2.2,t.d.size≤maxLen):∀t∈(lookL per bump p O).l,t.d.size≤maxLen:=by
 rcases lookL_cases per bump p O with ⟨e,_,h⟩ | ⟨_,h⟩ | ⟨_,h⟩ | ⟨_,h⟩ | ⟨_,h⟩ <;> rw [h]
 ·intro t ht;cases ht
 ·rcases addL_cases per bump p O.d with ⟨e,_,h⟩ | ⟨t,κ,h0,_,_,h⟩ <;> rw [h]
  ·intro t ht;cases ht
  ·intro x hx
   rcases (putV_bd t p.2.2).2 x hx with h1 | rfl
   ·exact hd x h1
   ·have:=(dec_some _ _ h0).1;unfold Tx.ok at this;have:=of_decide_eq_true this;unfold maxLen;omega
 ·rcases dropL_cases p O.v with h | ⟨t,_,h⟩ <;> rw [h]
  ·intro t ht;cases ht
  ·intro x hx;exact hd x (List.mem_filter.1 hx).1
 ·rcases advL_cases p O.v with ⟨e,_,h⟩ | ⟨_,_,_,h⟩ <;> rw [h]
  ·intro t ht;cases ht
  ·intro x hx;exact hd x (List.mem_filter.1 hx).1
 ·rcases getL_cases p O.v with h | ⟨t,_,h⟩ <;> rw [h] <;> intro t ht <;> cases ht
end Go.Proofs.YtfhgkkcpkcjbmaaGreatDoor.look

