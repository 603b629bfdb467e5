/- Layer 17 (evict): what is to go. -/
import Derived.Test.YtfhgkkcpkcjbmaaGreatDoorKEvAA
import Derived.Test.YtfhgkkcpkcjbmaaGreatDoorKEvJ
import Derived.Test.YtfhgkkcpkcjbmaaGreatDoorKLkTop
import Derived.Test.YtfhgkkcpkcjbmaaGreatDoorKTkRR
import Derived.Test.YtfhgkkcpkcjbmaaGreatDoorKTkJJ
set_option linter.all false
set_option maxHeartbeats 4000000
set_option maxRecDepth 100000
namespace Go.Proofs.YtfhgkkcpkcjbmaaGreatDoor.evict
open Go.RowKit Sx txn queue greedy shard pool Go.Proofs.YtfhgkkcpkcjbmaaGreatDoor.look lock Go.Proofs.YtfhgkkcpkcjbmaaGreatDoor.task
theorem worst_P (L:List Ac):worstV L=worstV ((L.map acP).map toA):=by
 unfold worstV lastsV
 rw [List.map_map,List.map_map]
 rfl
section
variable {W : World} {G : Option Nat} {Q : Ending → World → Prop} {ds : List Deferred}
theorem meetJ (P:List PA) {f:FuncId} {args:List Sx.T} {l:List Value} {m:M} {k:Value→List Fact→Tree} (hv:valsOf args=some l) (hc:callable Tryz.prog f=true)
  (hC:∀β ρ w,Mem W G m β ρ w→Calls Tryz.prog f (List.toArray l) w fun e w'=>∃(i:One) (Ls:List Ac),Ls.map acP=P∧(∀x∈Ls,x.fit)∧Sl i.1 Ls.length i.2∧Gives w w' e (.slice i.1 Ls.length i.2) (acsF i.1 Ls.length Ls))
  (h:∀(Ls:List Ac) (a:Option Addr) (c:Nat),Ls.map acP=P→(∀x∈Ls,x.fit)→Sl a Ls.length c→(k (.slice a Ls.length c) (acsF a Ls.length Ls)).wpD Tryz.prog W G Q ds):(Tree.call f args m k).wpD Tryz.prog W G Q ds:=
 meetLy (ι:=One×List Ac) (ok:=fun i=>i.2.map acP=P∧(∀x∈i.2,x.fit)∧Sl i.1.1 i.2.length i.1.2) (v:=fun i=>.slice i.1.1 i.2.length i.1.2) (fs:=fun i=>acsF i.1.1 i.2.length i.2) [] (by simp) hv hc
  (fun β ρ w hM=>(hC β ρ w hM).mono fun e w' ⟨i,Ls,h1,h2,h3,h4,h5,h6⟩=>⟨(i,Ls),⟨h1,h2,h3⟩,h4,h5,fun φ hφ g hg=>⟨.inl (h6 φ hφ g hg).1,(h6 φ hφ g hg).2⟩⟩) (fun i hi _=>h i.2 i.1.1 i.1.2 hi.1 hi.2.1 hi.2.2)
end
def chooseR (v:Ek) (s:Sg) (wt:Tx) (wb:Bool) (P:Pl):Er:=if wb=true∧overB s=true then (if pot.adjE s.t s.m P.dl=0 then ⟨⟨3,v.i,wt,P,[]⟩,⟨s.C,s.l,pot.adjT s.t s.m P.dl,s.m,s.S⟩,P.ev,true⟩ else ⟨⟨v.ph,v.i,wt,P,[]⟩,s,[],false⟩) else ⟨v,s,[],false⟩
theorem choose_ (v:Ek) (y:Pn) (s:Sg) (x:Sn) (κ:Nat) (q:Shd) (wt:Tx) (wb:Bool) (w:World) (hM:Most w) (hy:y.ok v.P) (hyf:∀φ∈y.fsN v,∀g,φ.g=some g→∃o,w.heap[g]?=some o∧φ.holds o) (hx:Sgo x s) (hxf:∀φ∈sgF x s,∀g,φ.g=some g→∃o,w.heap[g]?=some o∧φ.holds o)
  (hS1:x.S.length≤100000) (hall:(allS x.S).length≤100000) (hsf:∀z∈allS x.S,Fits z.s) (hso:Fits s.C.so) (hw:worstV ((joinS s.S).map toA)=(wt,wb)) (hκ:wb=true→fnv.shardV wt.s s.C.sh=κ∧x.S[κ]?=some q∧q.n≤100000) (hdl:Fits (dropL (getP (q.L.map acP) wt.s) wt.n).dl) :
  Calls Tryz.prog 67 (List.toArray [ekV v y,sgV s x]) w fun e w'=>Et Ea.v4 w w' (y.fsN v++sgF x s) e (chooseR v s wt wb (dropL (getP (q.L.map acP) wt.s) wt.n)):=by
 have SH:=fun w=>shardOf wt s x w
 have OV:=fun w=>over s x w hso
 have hjl:=srt_len (fun z:Ac=>z.s) (allS x.S)
 have hjm:(srt (fun z:Ac=>z.s) (allS x.S)).map acP=joinS s.S:=by rw [join_map,hx.2.2.2]
 have JN:=fun w hA=>join x.S x.sa x.S.length x.sc w hA hS1 hall hsf
 rw [hjm] at JN
 have hln:(joinS s.S).length≤100000:=by rw [← hjm,List.length_map,hjl];exact hall
 have WO:=fun {L:List Ac} (hL:L.map acP=joinS s.S) a c w hM hA=>worstL L (wt,wb) a L.length c w hM hA (by have h1:=congrArg List.length hL;rw [List.length_map] at h1;omega) (by rw [worst_P,hL];exact hw)
 have hR:∀P,chooseR v s wt wb P=if wb=true∧overB s=true then (if pot.adjE s.t s.m P.dl=0 then ⟨⟨3,v.i,wt,P,[]⟩,⟨s.C,s.l,pot.adjT s.t s.m P.dl,s.m,s.S⟩,P.ev,true⟩ else ⟨⟨v.ph,v.i,wt,P,[]⟩,s,[],false⟩) else ⟨v,s,[],false⟩:=fun _=>rfl
 rw [hR]
 clear hR hw
 generalize joinS s.S=J at *
 generalize overB s=ov at *
 refine calls_of_exec Sxe.env_ok.keeps.soon_ Tryz.func67 rfl [(3,(line [0,1,2,3,4,5],[2,3])),(4,(.one 0 (.one 1 (.one 2 (.one 3 (.one 7 (.one 8 (.fork 4 (.one 5 (.one 6 (.fork 9 (.one 10 (.one 11 (.done))) 10 (.one 9 (.one 11 (.done)))))) 10 (.one 4 (.one 5 (.one 6 (.one 9 (.one 11 (.done)))))))))))),[])),(5,(line [0,1,2,3,5,4,6,7,8],[0])),(8,(line [0,1,2,3,4,5],[2,3])),(10,(line [0,1,2,3,4,5,6,7,8],[2,3]))] (schedQ_ok _ _ (by kernel_rfl)) (y.fsN v++sgF x s) (fun φ hφ g hg=>(List.mem_append.1 hφ).elim (fun h=>hyf φ h g hg) (fun h=>hxf φ h g hg)) ?_
 conv=>arg 5;whnf
 refine meetJ J rfl (by kernel_rfl) (fun β ρ w' hM'=>JN w' (sgs_of hM' hx fun φ hφ=>(show φ∈(y.fsN v++sgF x s) from List.mem_append_right _ hφ)).2.1) (fun Ls ja jc hLm hLf hLs=>?_)
 conv=>arg 5;whnf
 refine meetc (f:=123) (v:=.tuple #[wt.val,.bool wb]) rfl (by kernel_rfl) (fun β ρ w' hM'=>WO hLm ja jc w' (hM.later hM'.below) (acs_of hM' hLs rfl hLf fun φ hφ=>(show φ∈(acsF ja Ls.length Ls++(y.fsN v++sgF x s)) from List.mem_append_left _ hφ))) ?_
 cases wb with
 | false=>
  rw [if_neg (fun h=>by cases h.1)]
  conv=>arg 5;whnf
  refine wp_back fun β ρ w' hM'=>et_mk (r:=⟨v,s,[],false⟩) ⟨y,x,none,0⟩ ⟨hy,hx,sl0⟩ rfl hM' fun φ hφ g hg=>?_
  rcases List.mem_cons.1 hφ with rfl | hφ
  ·cases hg
  ·rcases List.mem_append.1 hφ with h | h
   ·exact ⟨(show φ∈(acsF ja Ls.length Ls++(y.fsN v++sgF x s)) from List.mem_append_right _ (List.mem_append_left _ h)),new_old (List.mem_append_left _ h)⟩
   ·exact ⟨(show φ∈(acsF ja Ls.length Ls++(y.fsN v++sgF x s)) from List.mem_append_right _ (List.mem_append_right _ h)),new_old (List.mem_append_right _ h)⟩
 | true=>
  conv=>arg 5;whnf
  refine meetc (f:=75) (v:=.bool ov) rfl (by kernel_rfl) (fun β ρ w' hM'=>OV w') ?_
  cases ov with
  | false=>
   rw [if_neg (fun h=>by cases h.2)]
   conv=>arg 5;whnf
   refine wp_back fun β ρ w' hM'=>et_mk (r:=⟨v,s,[],false⟩) ⟨y,x,none,0⟩ ⟨hy,hx,sl0⟩ rfl hM' fun φ hφ g hg=>?_
   rcases List.mem_cons.1 hφ with rfl | hφ
   ·cases hg
   ·rcases List.mem_append.1 hφ with h | h
    ·exact ⟨(show φ∈(acsF ja Ls.length Ls++(y.fsN v++sgF x s)) from List.mem_append_right _ (List.mem_append_left _ h)),new_old (List.mem_append_left _ h)⟩
    ·exact ⟨(show φ∈(acsF ja Ls.length Ls++(y.fsN v++sgF x s)) from List.mem_append_right _ (List.mem_append_right _ h)),new_old (List.mem_append_right _ h)⟩
  | true=>
   rw [if_pos ⟨rfl,rfl⟩]
   obtain ⟨hκ,hq,hq1⟩:=hκ rfl
   rw [hκ] at SH
   have hqm:=List.mem_of_getElem? hq
   have hlt:κ<x.S.length:=(List.getElem?_eq_some_iff.1 hq).1
   have GT:=fun w hA=>shard.get q.v q.L q.a q.n q.c wt.s w hA (by omega)
   obtain ⟨hp1,hp2⟩:=getP_fit (hx.2.2.1 q hqm).2.2 wt.s
   generalize getP (q.L.map acP) wt.s=p at *
   have DR:=fun u cu w hM (hu:Sl u p.2.2.length cu) hr=>look.drop p u cu wt.n w hM hu hr hp1 hp2
   generalize dropL p wt.n=L at *
   conv=>arg 5;whnf
   refine wp_both ?_ ?_
   all_goals
    conv=>arg 5;whnf
    refine meetc (f:=126) (v:=.int .i64 κ) rfl (by kernel_rfl) (fun β ρ w' hM'=>SH w') ?_
    conv=>arg 5;whnf
    refine wp_must ⟨by omega,by show (κ:Int)<(x.S.length:Int);omega,hx.2.1.some hlt⟩ ?_
    conv=>arg 5;whnf
    refine readG Sxe.env_ok (vs:=q.cs) (sz:=2) (k:=κ) rfl rfl (show rowF (pt x.sa x.S.length) (cellsS x.S)∈(acsF ja Ls.length Ls++(y.fsN v++sgF x s)) from List.mem_append_right _ (List.mem_append_right _ (.tail _ (.head _)))) hlt (hx.2.1.some hlt) (cellsS_at hq) rfl ?_
    conv=>arg 5;whnf
    try refine wp_both ?_ ?_
    all_goals
     conv=>arg 5;whnf
     refine meet1F (f:=125) (n:=p.2.2.length) (v:=fun a1 c1=>acc p.1 p.2.1 a1 p.2.2.length c1) (xs:=cellsL p.2.2) rfl (by kernel_rfl) (fun β ρ w' hM'=>GT w' (acs_of hM' (hx.2.2.1 q hqm).1 (hx.2.2.1 q hqm).2.1 (hx.2.2.1 q hqm).2.2 fun φ hφ=>(show φ∈(acsF ja Ls.length Ls++(y.fsN v++sgF x s)) from List.mem_append_right _ (List.mem_append_right _ (.tail _ (.tail _ (List.mem_flatMap.2 ⟨q,hqm,hφ⟩))))))) (fun u c_u h_u f_u=>?_)
     conv=>arg 5;whnf
     refine meetPl (f:=127) L [] (by simp) rfl (by kernel_rfl) (fun β ρ w' hM'=>DR u c_u w' (hM.later hM'.below) h_u (hM'.at_ (show rowF (pt u p.2.2.length) (cellsL p.2.2)∈(rowF (pt u p.2.2.length) (cellsL p.2.2)::(acsF ja Ls.length Ls++(y.fsN v++sgF x s))) from .head _))) (fun z hz hnew=>?_)
     have AD:=fun w=>pot.adjust s.t s.m L.dl w hdl
     conv=>arg 5;whnf
     refine meetc (f:=128) (v:=.tuple #[pot.two (pot.adjT s.t s.m L.dl) s.m,.int .i64 (pot.adjE s.t s.m L.dl)]) rfl (by kernel_rfl) (fun β ρ w' hM'=>AD w') ?_
     conv=>arg 5;whnf
     refine wp_br (fun h1=>?_) (fun h1=>?_)
     ·rw [if_neg (show ¬ pot.adjE s.t s.m L.dl=0 by have h2:(!(pot.adjE s.t s.m L.dl==0))=true:=h1;simpa using h2)]
      conv=>arg 5;whnf
      refine wp_back fun β ρ w' hM'=>et_mk (r:=⟨⟨v.ph,v.i,wt,L,[]⟩,s,[],false⟩) ⟨z,x,none,0⟩ ⟨hz,hx,sl0⟩ rfl hM' fun φ hφ g hg=>?_
      rcases List.mem_cons.1 hφ with rfl | hφ
      ·cases hg
      ·rcases List.mem_append.1 hφ with h | h
       ·exact ⟨(show φ∈(z.fs L++(rowF (pt u p.2.2.length) (cellsL p.2.2)::(acsF ja Ls.length Ls++(y.fsN v++sgF x s)))) from List.mem_append_left _ h),(fun g hg=>(hnew _ h g hg).elim .inl (fun ⟨ψ,h1,_⟩=>by cases h1))⟩
       ·exact ⟨(show φ∈(z.fs L++(rowF (pt u p.2.2.length) (cellsL p.2.2)::(acsF ja Ls.length Ls++(y.fsN v++sgF x s)))) from List.mem_append_right _ (.tail _ (List.mem_append_right _ (List.mem_append_right _ h)))),new_old (List.mem_append_right _ h)⟩
     ·rw [if_pos (show pot.adjE s.t s.m L.dl=0 by have h2:(!(pot.adjE s.t s.m L.dl==0))=false:=h1;simpa using h2)]
      conv=>arg 5;whnf
      refine wp_back fun β ρ w' hM'=>et_mk (r:=⟨⟨3,v.i,wt,L,[]⟩,⟨s.C,s.l,pot.adjT s.t s.m L.dl,s.m,s.S⟩,L.ev,true⟩) ⟨z,x,z.ea,z.ec⟩ ⟨hz,hx,hz.2.1⟩ rfl hM' fun φ hφ g hg=>?_
      rcases List.mem_cons.1 hφ with rfl | hφ
      ·exact ⟨(show rowF (pt z.ea L.ev.length) (cellsE L.ev)∈(z.fs L++(rowF (pt u p.2.2.length) (cellsL p.2.2)::(acsF ja Ls.length Ls++(y.fsN v++sgF x s)))) from List.mem_append_left _ (.tail _ (.head _))),(fun g hg=>(hnew _ (.tail _ (.head _)) g hg).elim .inl (fun ⟨ψ,h1,_⟩=>by cases h1))⟩
      ·rcases List.mem_append.1 hφ with h | h
       ·exact ⟨(show φ∈(z.fs L++(rowF (pt u p.2.2.length) (cellsL p.2.2)::(acsF ja Ls.length Ls++(y.fsN v++sgF x s)))) from List.mem_append_left _ h),(fun g hg=>(hnew _ h g hg).elim .inl (fun ⟨ψ,h1,_⟩=>by cases h1))⟩
       ·exact ⟨(show φ∈(z.fs L++(rowF (pt u p.2.2.length) (cellsL p.2.2)::(acsF ja Ls.length Ls++(y.fsN v++sgF x s)))) from List.mem_append_right _ (.tail _ (List.mem_append_right _ (List.mem_append_right _ h)))),new_old (List.mem_append_right _ h)⟩
end Go.Proofs.YtfhgkkcpkcjbmaaGreatDoor.evict
namespace Go.Proofs.YtfhgkkcpkcjbmaaGreatDoor.evict
open Go.RowKit Sx txn queue greedy shard pool Go.Proofs.YtfhgkkcpkcjbmaaGreatDoor.look lock Go.Proofs.YtfhgkkcpkcjbmaaGreatDoor.task
structure Lx where
 r:Er
 a:Ea
section
variable {W : World} {G : Option Nat} {Q : Ending → World → Prop} {ds : List Deferred}
theorem meetEk {f:FuncId} {args:List Sx.T} {l:List Value} {m:M} {k:Value→List Fact→Tree} (v:Ek) (hv:valsOf args=some l) (hc:callable Tryz.prog f=true)
  (hC:∀β ρ w,Mem W G m β ρ w→Calls Tryz.prog f (List.toArray l) w fun e w'=>∃y:Pn,y.ok v.P∧Lay w w' [] e (ekV v y) (y.fsN v))
  (h:∀y:Pn,y.ok v.P→(∀φ∈y.fsN v,New W [] φ)→(k (ekV v y) (y.fsN v)).wpD Tryz.prog W G Q ds):(Tree.call f args m k).wpD Tryz.prog W G Q ds:=
 meetLy (ι:=Pn) (ok:=fun y=>y.ok v.P) (v:=fun y=>ekV v y) (fs:=fun y=>y.fsN v) [] (by simp) hv hc hC h
end
def chooseS (v:Ek) (s:Sg):Er:=chooseR v s (worstV ((joinS s.S).map toA)).1 (worstV ((joinS s.S).map toA)).2 (dropL (getP (shQ s (fnv.shardV (worstV ((joinS s.S).map toA)).1.s s.C.sh)).1 (worstV ((joinS s.S).map toA)).1.s) (worstV ((joinS s.S).map toA)).1.n)
def applyS (v:Ek) (s:Sg):Er:=if fnv.shardV v.t.s s.C.sh<0 then ⟨v,s,[],false⟩ else applyE v s (fnv.shardV v.t.s s.C.sh).toNat (shQ s (fnv.shardV v.t.s s.C.sh)).1 (shQ s (fnv.shardV v.t.s s.C.sh)).2
def unl (r:Er):Er:=if r.p=true then r else ⟨⟨4,r.v.i,r.v.t,r.v.P,r.v.N⟩,r.s,r.ev,r.p⟩
def phaseE (v:Ek) (who:Int) (s:Sg):Er:=if v.ph=0 then ⟨⟨1,0,tx0,failL 0,[]⟩,s,[],false⟩ else if v.ph=1 then takeR v who s else if v.ph=2 then unl (chooseS v s) else if v.ph=3 then unl (applyS v s) else giveR v who s
def stepE (v:Ek) (who:Int) (s:Sg):Er:=if ableE v who s=true then phaseE v who s else ⟨v,s,[],false⟩
def Esz (v:Ek):Prop:=v.P.l.length≤1000000∧v.P.ev.length≤1000000∧v.P.r.l.length≤1000000
def Ssz (s:Sg):Prop:=s.l.length≤1000000∧s.S.length≤1000000∧∀q∈s.S,q.1.length≤1000000
theorem new_up {W:World} {old:List Fact} {φ:Fact} (h:New W [] φ):New W old φ:=fun g hg=>(h g hg).elim .inl (fun ⟨ψ,h1,_⟩=>by cases h1)
theorem step (v:Ek) (y:Pn) (who:Int) (s:Sg) (x:Sn) (w:World) (hM:Most w) (hy:y.ok v.P) (hyf:∀φ∈y.fsN v,∀g,φ.g=some g→∃o,w.heap[g]?=some o∧φ.holds o) (hx:Sgo x s) (hxf:∀φ∈sgF x s,∀g,φ.g=some g→∃o,w.heap[g]?=some o∧φ.holds o)
  (hz:Esz (stepE v who s).v∧Ssz (stepE v who s).s) (hs0:Ssz s) (hi:ableE v who s=true→v.ph=1∨v.ph=4→0≤v.i∧v.i<s.l.length) (hph:ableE v who s=true→0≤v.ph∧v.ph≤4)
  (hCH:∀w,Most w→ableE v who s=true→(∀φ∈y.fsN v,∀g,φ.g=some g→∃o,w.heap[g]?=some o∧φ.holds o)→(∀φ∈sgF x s,∀g,φ.g=some g→∃o,w.heap[g]?=some o∧φ.holds o)→Calls Tryz.prog 67 (List.toArray [ekV v y,sgV s x]) w fun e w'=>Et Ea.v4 w w' (y.fsN v++sgF x s) e (chooseS v s))
  (hAP:∀w,Most w→ableE v who s=true→(∀φ∈y.fsN v,∀g,φ.g=some g→∃o,w.heap[g]?=some o∧φ.holds o)→(∀φ∈sgF x s,∀g,φ.g=some g→∃o,w.heap[g]?=some o∧φ.holds o)→Calls Tryz.prog 68 (List.toArray [ekV v y,sgV s x]) w fun e w'=>Et Ea.v1 w w' (y.fsN v++sgF x s) e (applyS v s)) (hap:(applyS v s).v=v∧(applyS v s).ev=[]∧(applyS v s).p=false) :
  Calls Tryz.prog 27 (List.toArray [ekV v y,.int .i64 who,sgV s x]) w fun e w'=>Et Ea.v4 w w' (y.fsN v++sgF x s) e (stepE v who s):=by
 have AB:=fun w hM hS=>able v y who s x w hM hS (sgs_n hx hs0.2.2) hs0.1
 have hR:stepE v who s=if ableE v who s=true then phaseE v who s else ⟨v,s,[],false⟩:=rfl
 refine calls_of_exec Sxe.env_ok.keeps.soon_ Tryz.func27 rfl [(17,(line [0,2,4,5,1,3,6,7,8,9],[2,3]))] (schedQ_ok _ _ (by kernel_rfl)) (rowF (pt none 0) (cellsE [])::(rowF (pt none 0) (cellsL [])::(y.fsN v++sgF x s))) (fun φ hφ g hg=>(List.mem_cons.1 hφ).elim (fun e=>by subst e;cases hg) (fun hφ=>(List.mem_cons.1 hφ).elim (fun e=>by subst e;cases hg) (fun hφ=>(List.mem_append.1 hφ).elim (fun h=>hyf φ h g hg) (fun h=>hxf φ h g hg)))) ?_
 conv=>arg 5;whnf
 refine scope_rule Sxe.env_ok.keeps.soon_ [(17,(line [0,2,4,5,1,3,6,7,8,9],[2,3]))] 0 rfl (schedQ_ok _ _ (by kernel_rfl)) (schedQ_ok _ _ (by kernel_rfl)) (fun i:Lx=>i.r=stepE v who s∧i.a.ok i.r∧∀φ∈i.a.fs i.r,New w (y.fsN v++sgF x s) φ) (fun i=>(⟨[some ([.v (.int .i64 i.r.v.ph),.v (.int .i64 i.r.v.i),.v (.int .i64 i.r.v.t.s),.v (.int .i64 i.r.v.t.n),.v (.int .i64 i.r.v.t.t),.v (.int .i64 i.r.v.t.c),.v (.int .i64 i.r.v.t.g),.v (.string i.r.v.t.d),.v (.bool i.r.v.P.ch),.v (.int .i64 i.r.v.P.dl),.v (.int .i64 i.r.v.P.s),.v (.int .i64 i.r.v.P.b),.v (.slice i.a.y.a i.r.v.P.l.length i.a.y.c),.v (.slice i.a.y.ea i.r.v.P.ev.length i.a.y.ec),.v (.int .i64 i.r.v.P.r.e),.v (.int .i64 i.r.v.P.r.t.s),.v (.int .i64 i.r.v.P.r.t.n),.v (.int .i64 i.r.v.P.r.t.t),.v (.int .i64 i.r.v.P.r.t.c),.v (.int .i64 i.r.v.P.r.t.g),.v (.string i.r.v.P.r.t.d),.v (.slice i.a.y.ta i.r.v.P.r.l.length i.a.y.tc),.v (.int .i64 i.r.v.P.r.n)],51),some ([.v (.int .i64 i.r.s.C.sh),.v (.int .i64 i.r.s.C.so),.v (.int .i64 i.r.s.C.hd),.v (.int .i64 i.r.s.C.per),.v (.int .i64 i.r.s.C.bp),.v (.int .i64 i.r.s.C.fd),.v (.int .i64 i.r.s.C.wk),.v (.int .i64 i.r.s.C.rm),.v (.slice i.a.x.la i.r.s.l.length i.a.x.lc),.v (.int .i64 i.r.s.t),.v (.int .i64 i.r.s.m),.v (.slice i.a.x.sa i.a.x.S.length i.a.x.sc)],56),some ([.v (.int .i64 0),.v (.int .i64 0),.v (.int .i64 0),.v (.int .i64 0),.v (.int .i64 0),.v (.int .i64 0),.v (.int .i64 0),.v (.string ByteArray.empty),.v (.bool false),.v (.int .i64 0),.v (.int .i64 0),.v (.int .i64 0),.v (.slice none 0 0),.v (.slice none 0 0),.v (.int .i64 0),.v (.int .i64 0),.v (.int .i64 0),.v (.int .i64 0),.v (.int .i64 0),.v (.int .i64 0),.v (.string ByteArray.empty),.v (.slice none 0 0),.v (.int .i64 0)],51),some ([.v (.int .i64 0),.v (.int .i64 0),.v (.int .i64 0),.v (.int .i64 0),.v (.int .i64 0),.v (.int .i64 0),.v (.int .i64 0),.v (.int .i64 0),.v (.slice none 0 0),.v (.int .i64 0),.v (.int .i64 0),.v (.slice none 0 0)],56)],[],i.a.fs i.r++(y.fsN v++sgF x s)⟩,[.any,.any,.any,.p 0 0,.any,.p 1 0,.p 2 0,.p 3 0,.any,.any,.v (.slice i.a.ea i.r.ev.length i.a.ec),.v (.bool i.r.p),.any,.any,.any,.any,.any,.any,.any,.any,.any,.any,.any,.any,.any,.any,.any,.any,.any,.any,.any,.any,.any,.any,.any,.any,.any,.any,.any,.any,.any,.any,.any,.any,.any,.any,.any,.any,.any,.any,.any,.any,.any,.any,.any,.any,.any,.any,.any,.any,.any,.any,.any])) (fun _=>0) 1 ?_ ?_
 rotate_left
 ·rintro ⟨⟨v1,s1,e1,p1⟩,⟨y1,x1,ea,ec⟩⟩ ⟨hr,⟨hy1,hx1,he1⟩,hnew⟩
  have hr:(⟨v1,s1,e1,p1⟩:Er)=stepE v who s:=hr
  rw [← hr] at hz ⊢
  have hy1:y1.ok v1.P:=hy1
  have hx1:Sgo x1 s1:=hx1
  have he1:Sl ea e1.length ec:=he1
  conv=>arg 5;whnf
  refine meetEk (f:=59) v1 rfl (by kernel_rfl) (fun β ρ w' hM'=>copied v1 y1 w' hy1 (fun φ hφ g hg=>(hM'.fact φ (show φ∈((⟨y1,x1,ea,ec⟩:Ea).fs ⟨v1,s1,e1,p1⟩++(y.fsN v++sgF x s)) from List.mem_append_left _ (.tail _ (List.mem_append_left _ hφ))) g hg).2) hz.1.1 hz.1.2.1 hz.1.2.2) (fun y2 hy2 new2=>?_)
  conv=>arg 5;whnf
  refine meetSn (f:=60) s1 rfl (by kernel_rfl) (fun β ρ w' hM'=>copiedE s1 x1 w' hx1 (fun φ hφ g hg=>(hM'.fact φ (show φ∈(y2.fsN v1++((⟨y1,x1,ea,ec⟩:Ea).fs ⟨v1,s1,e1,p1⟩++(y.fsN v++sgF x s))) from List.mem_append_right _ (List.mem_append_left _ (.tail _ (List.mem_append_right _ hφ)))) g hg).2) hz.2.1 (by rw [sgs_len hx1];exact hz.2.2.1) (sgs_n hx1 hz.2.2.2)) (fun x2 hx2 new3=>?_)
  conv=>arg 5;whnf
  refine wp_back fun β ρ w' hM'=>et_mk (r:=⟨v1,s1,e1,p1⟩) ⟨y2,x2,ea,ec⟩ ⟨hy2,hx2,he1⟩ rfl hM' fun φ hφ g hg=>?_
  rcases List.mem_cons.1 hφ with rfl | hφ
  ·exact ⟨(show rowF (pt ea e1.length) (cellsE e1)∈(sgF x2 s1++(y2.fsN v1++((⟨y1,x1,ea,ec⟩:Ea).fs ⟨v1,s1,e1,p1⟩++(y.fsN v++sgF x s)))) from List.mem_append_right _ (List.mem_append_right _ (List.mem_append_left _ (.head _)))),hnew _ (.head _)⟩
  ·rcases List.mem_append.1 hφ with h | h
   ·exact ⟨(show φ∈(sgF x2 s1++(y2.fsN v1++((⟨y1,x1,ea,ec⟩:Ea).fs ⟨v1,s1,e1,p1⟩++(y.fsN v++sgF x s)))) from List.mem_append_right _ (List.mem_append_left _ h)),new_up (new2 _ h)⟩
   ·exact ⟨(show φ∈(sgF x2 s1++(y2.fsN v1++((⟨y1,x1,ea,ec⟩:Ea).fs ⟨v1,s1,e1,p1⟩++(y.fsN v++sgF x s)))) from List.mem_append_left _ h),new_up (new3 _ h)⟩
 rw [hR] at hz ⊢
 clear hR
 generalize ableE v who s=ab at *
 conv=>arg 5;whnf
 refine meetc (f:=31) (v:=.bool ab) rfl (by kernel_rfl) (fun β ρ w' hM'=>AB w' (hM.later hM'.below) (sgs_of hM' hx fun φ hφ=>(show φ∈(rowF (pt none 0) (cellsE [])::(rowF (pt none 0) (cellsL [])::(y.fsN v++sgF x s))) from .tail _ (.tail _ (List.mem_append_right _ hφ))))) ?_
 cases ab with
 | false=>
  rw [if_neg (by simp)] at hz ⊢
  conv=>arg 5;whnf
  refine wp_end ⟨rfl,⟨⟨v,s,[],false⟩,⟨y,x,none,0⟩⟩,⟨rfl,⟨hy,hx,sl0⟩,fun φ hφ=>(List.mem_cons.1 hφ).elim (fun e=>by subst e;intro g hg;cases hg) (fun h=>new_old h)⟩,⟨by repeat' first | exact trivial | refine ⟨.inl rfl,?_⟩ | refine ⟨.inr rfl,?_⟩,⟨by repeat' first | exact trivial | refine ⟨.inl rfl,?_⟩ | refine ⟨.inr rfl,?_⟩,by repeat' first | exact trivial | refine ⟨.inl rfl,?_⟩ | refine ⟨.inr rfl,?_⟩,fun φ h=>(fun h=>(List.mem_append.1 h).elim (fun h=>(List.mem_cons.1 h).elim (fun e=>e▸.head _) fun h=>.tail _ (.tail _ h)) fun h=>.tail _ (.tail _ h)) (show φ∈((⟨y,x,none,0⟩:Ea).fs ⟨v,s,[],false⟩++(y.fsN v++sgF x s)) from h)⟩,rfl⟩,Nat.zero_lt_one⟩
 | true=>
  rw [if_pos rfl] at hz ⊢
  have hph:=hph rfl
  have hi:=hi rfl
  have hE:phaseE v who s=if v.ph=0 then ⟨⟨1,0,tx0,failL 0,[]⟩,s,[],false⟩ else if v.ph=1 then takeR v who s else if v.ph=2 then unl (chooseS v s) else if v.ph=3 then unl (applyS v s) else giveR v who s:=rfl
  rw [hE] at hz ⊢
  clear hE
  conv=>arg 5;whnf
  refine wp_br (fun g0=>?_) (fun g0=>?_)
  ·have k0:v.ph=0:=by have:(v.ph==0)=true:=g0;simpa using this
   rw [if_pos k0] at hz ⊢
   conv=>arg 5;whnf
   refine wp_end ⟨rfl,⟨⟨⟨1,0,tx0,failL 0,[]⟩,s,[],false⟩,⟨⟨none,0,none,0,none,0⟩,x,none,0⟩⟩,⟨rfl,⟨⟨sl0,sl0,sl0⟩,hx,sl0⟩,fun φ hφ=>(List.mem_cons.1 hφ).elim (fun e=>by subst e;intro g hg;cases hg) (fun h=>(List.mem_append.1 h).elim (fun h=>by simp only [Pn.fsN,List.mem_cons,List.not_mem_nil,or_false] at h;rcases h with rfl | rfl | rfl <;> intro g hg <;> cases hg) fun h=>new_old (List.mem_append_right _ h))⟩,⟨by repeat' first | exact trivial | refine ⟨.inl rfl,?_⟩ | refine ⟨.inr rfl,?_⟩,⟨by repeat' first | exact trivial | refine ⟨.inl rfl,?_⟩ | refine ⟨.inr rfl,?_⟩,by repeat' first | exact trivial | refine ⟨.inl rfl,?_⟩ | refine ⟨.inr rfl,?_⟩,fun φ h=>(fun h=>(List.mem_append.1 h).elim (fun h=>(List.mem_cons.1 h).elim (fun e=>e▸.head _) fun h=>(List.mem_append.1 h).elim (fun h=>by simp only [Pn.fsN,List.mem_cons,List.not_mem_nil,or_false] at h;rcases h with rfl | rfl | rfl <;> first | exact .tail _ (.head _) | exact .head _) fun h=>.tail _ (.tail _ (List.mem_append_right _ h))) fun h=>.tail _ (.tail _ h)) (show φ∈((⟨⟨none,0,none,0,none,0⟩,x,none,0⟩:Ea).fs ⟨⟨1,0,tx0,failL 0,[]⟩,s,[],false⟩++(y.fsN v++sgF x s)) from h)⟩,rfl⟩,Nat.zero_lt_one⟩
  have k0:¬ v.ph=0:=by have:(v.ph==0)=false:=g0;simpa using this
  rw [if_neg k0] at hz ⊢
  conv=>arg 5;whnf
  refine wp_br (fun g1=>?_) (fun g1=>?_)
  ·have k1:v.ph=1:=by have:(v.ph==1)=true:=g1;simpa using this
   rw [if_pos k1] at hz ⊢
   have TK:=fun w hyf hxf=>take_ v y who s x w hy hyf hx hxf hs0.1 (hi (.inl k1))
   have hev:(takeR v who s).ev=[]∧(takeR v who s).p=false:=⟨rfl,rfl⟩
   generalize takeR v who s=R at *
   obtain ⟨v1,s1,e1,p1⟩:=R
   obtain ⟨h1,h2⟩:=hev
   have h1:e1=[]:=h1
   have h2:p1=false:=h2
   subst h1 h2
   conv=>arg 5;whnf
   refine meetEt Ea.v2 (f:=66) ⟨v1,s1,[],false⟩ (y.fsN v++sgF x s) (fun ψ h=>(show ψ∈(rowF (pt none 0) (cellsE [])::(rowF (pt none 0) (cellsL [])::(y.fsN v++sgF x s))) from .tail _ (.tail _ h))) rfl (by kernel_rfl) (fun β ρ w' hM'=>TK w' (fun φ hφ g hg=>(hM'.fact φ (show φ∈(rowF (pt none 0) (cellsE [])::(rowF (pt none 0) (cellsL [])::(y.fsN v++sgF x s))) from .tail _ (.tail _ (List.mem_append_left _ hφ))) g hg).2) (fun φ hφ g hg=>(hM'.fact φ (show φ∈(rowF (pt none 0) (cellsE [])::(rowF (pt none 0) (cellsL [])::(y.fsN v++sgF x s))) from .tail _ (.tail _ (List.mem_append_right _ hφ))) g hg).2)) (fun a ha hnew=>?_)
   obtain ⟨y1,x1,ea,ec⟩:=a
   obtain ⟨hy1,hx1,he1⟩:=ha
   have hy1:y1.ok v1.P:=hy1
   have hx1:Sgo x1 s1:=hx1
   conv=>arg 5;whnf
   refine wp_end ⟨rfl,⟨⟨v1,s1,[],false⟩,⟨y1,x1,none,0⟩⟩,⟨rfl,⟨hy1,hx1,sl0⟩,fun φ hφ=>(List.mem_cons.1 hφ).elim (fun e=>by subst e;intro g hg;cases hg) (fun h=>hnew φ (.tail _ h))⟩,⟨by repeat' first | exact trivial | refine ⟨.inl rfl,?_⟩ | refine ⟨.inr rfl,?_⟩,⟨by repeat' first | exact trivial | refine ⟨.inl rfl,?_⟩ | refine ⟨.inr rfl,?_⟩,by repeat' first | exact trivial | refine ⟨.inl rfl,?_⟩ | refine ⟨.inr rfl,?_⟩,fun φ h=>(fun h=>(List.mem_append.1 h).elim (fun h=>(List.mem_cons.1 h).elim (fun e=>e▸List.mem_append_right _ (.head _)) fun h=>List.mem_append_left _ (.tail _ h)) fun h=>List.mem_append_right _ (.tail _ (.tail _ h))) (show φ∈((⟨y1,x1,none,0⟩:Ea).fs ⟨v1,s1,[],false⟩++(y.fsN v++sgF x s)) from h)⟩,rfl⟩,Nat.zero_lt_one⟩
  have k1:¬ v.ph=1:=by have:(v.ph==1)=false:=g1;simpa using this
  rw [if_neg k1] at hz ⊢
  conv=>arg 5;whnf
  refine wp_br (fun g2=>?_) (fun g2=>?_)
  ·have k2:v.ph=2:=by have:(v.ph==2)=true:=g2;simpa using this
   rw [if_pos k2] at hz ⊢
   have CH:=fun w hM hyf hxf=>hCH w hM rfl hyf hxf
   generalize chooseS v s=R at *
   obtain ⟨v1,s1,e1,p1⟩:=R
   conv=>arg 5;whnf
   refine meetEt Ea.v4 (f:=67) ⟨v1,s1,e1,p1⟩ (y.fsN v++sgF x s) (fun ψ h=>(show ψ∈(rowF (pt none 0) (cellsE [])::(rowF (pt none 0) (cellsL [])::(y.fsN v++sgF x s))) from .tail _ (.tail _ h))) rfl (by kernel_rfl) (fun β ρ w' hM'=>CH w' (hM.later hM'.below) (fun φ hφ g hg=>(hM'.fact φ (show φ∈(rowF (pt none 0) (cellsE [])::(rowF (pt none 0) (cellsL [])::(y.fsN v++sgF x s))) from .tail _ (.tail _ (List.mem_append_left _ hφ))) g hg).2) (fun φ hφ g hg=>(hM'.fact φ (show φ∈(rowF (pt none 0) (cellsE [])::(rowF (pt none 0) (cellsL [])::(y.fsN v++sgF x s))) from .tail _ (.tail _ (List.mem_append_right _ hφ))) g hg).2)) (fun a ha hnew=>?_)
   obtain ⟨y1,x1,ea,ec⟩:=a
   obtain ⟨hy1,hx1,he1⟩:=ha
   have hy1:y1.ok v1.P:=hy1
   have hx1:Sgo x1 s1:=hx1
   have he1:Sl ea e1.length ec:=he1
   cases p1 with
   | true=>
    have hu:unl ⟨v1,s1,e1,true⟩=⟨v1,s1,e1,true⟩:=rfl
    rw [hu] at hz ⊢
    conv=>arg 5;whnf
    refine wp_end ⟨rfl,⟨⟨v1,s1,e1,true⟩,⟨y1,x1,ea,ec⟩⟩,⟨rfl,⟨hy1,hx1,he1⟩,hnew⟩,⟨by repeat' first | exact trivial | refine ⟨.inl rfl,?_⟩ | refine ⟨.inr rfl,?_⟩,⟨by repeat' first | exact trivial | refine ⟨.inl rfl,?_⟩ | refine ⟨.inr rfl,?_⟩,by repeat' first | exact trivial | refine ⟨.inl rfl,?_⟩ | refine ⟨.inr rfl,?_⟩,fun φ h=>(fun h=>(List.mem_append.1 h).elim (fun h=>List.mem_append_left _ h) fun h=>List.mem_append_right _ (.tail _ (.tail _ h))) (show φ∈((⟨y1,x1,ea,ec⟩:Ea).fs ⟨v1,s1,e1,true⟩++(y.fsN v++sgF x s)) from h)⟩,rfl⟩,Nat.zero_lt_one⟩
   | false=>
    have hu:unl ⟨v1,s1,e1,false⟩=⟨⟨4,v1.i,v1.t,v1.P,v1.N⟩,s1,e1,false⟩:=rfl
    rw [hu] at hz ⊢
    conv=>arg 5;whnf
    refine meetEk (f:=59) (⟨4,v1.i,v1.t,v1.P,v1.N⟩:Ek) rfl (by kernel_rfl) (fun β ρ w' hM'=>copied (⟨4,v1.i,v1.t,v1.P,v1.N⟩:Ek) y1 w' hy1 (fun φ hφ g hg=>(hM'.fact φ (show φ∈((⟨y1,x1,ea,ec⟩:Ea).fs ⟨v1,s1,e1,false⟩++(rowF (pt none 0) (cellsE [])::(rowF (pt none 0) (cellsL [])::(y.fsN v++sgF x s)))) from List.mem_append_left _ (.tail _ (List.mem_append_left _ hφ))) g hg).2) hz.1.1 hz.1.2.1 hz.1.2.2) (fun y2 hy2 new2=>?_)
    conv=>arg 5;whnf
    refine meetSn (f:=60) s1 rfl (by kernel_rfl) (fun β ρ w' hM'=>copiedE s1 x1 w' hx1 (fun φ hφ g hg=>(hM'.fact φ (show φ∈(y2.fsN (⟨4,v1.i,v1.t,v1.P,v1.N⟩:Ek)++((⟨y1,x1,ea,ec⟩:Ea).fs ⟨v1,s1,e1,false⟩++(rowF (pt none 0) (cellsE [])::(rowF (pt none 0) (cellsL [])::(y.fsN v++sgF x s))))) from List.mem_append_right _ (List.mem_append_left _ (.tail _ (List.mem_append_right _ hφ)))) g hg).2) hz.2.1 (by rw [sgs_len hx1];exact hz.2.2.1) (sgs_n hx1 hz.2.2.2)) (fun x2 hx2 new3=>?_)
    conv=>arg 5;whnf
    refine wp_back fun β ρ w' hM'=>et_mk (r:=⟨(⟨4,v1.i,v1.t,v1.P,v1.N⟩:Ek),s1,e1,false⟩) ⟨y2,x2,ea,ec⟩ ⟨hy2,hx2,he1⟩ rfl hM' fun φ hφ g hg=>?_
    rcases List.mem_cons.1 hφ with rfl | hφ
    ·exact ⟨(show rowF (pt ea e1.length) (cellsE e1)∈(sgF x2 s1++(y2.fsN (⟨4,v1.i,v1.t,v1.P,v1.N⟩:Ek)++((⟨y1,x1,ea,ec⟩:Ea).fs ⟨v1,s1,e1,false⟩++(rowF (pt none 0) (cellsE [])::(rowF (pt none 0) (cellsL [])::(y.fsN v++sgF x s)))))) from List.mem_append_right _ (List.mem_append_right _ (List.mem_append_left _ (.head _)))),hnew _ (.head _)⟩
    ·rcases List.mem_append.1 hφ with h | h
     ·exact ⟨(show φ∈(sgF x2 s1++(y2.fsN (⟨4,v1.i,v1.t,v1.P,v1.N⟩:Ek)++((⟨y1,x1,ea,ec⟩:Ea).fs ⟨v1,s1,e1,false⟩++(rowF (pt none 0) (cellsE [])::(rowF (pt none 0) (cellsL [])::(y.fsN v++sgF x s)))))) from List.mem_append_right _ (List.mem_append_left _ h)),new_up (new2 _ h)⟩
     ·exact ⟨(show φ∈(sgF x2 s1++(y2.fsN (⟨4,v1.i,v1.t,v1.P,v1.N⟩:Ek)++((⟨y1,x1,ea,ec⟩:Ea).fs ⟨v1,s1,e1,false⟩++(rowF (pt none 0) (cellsE [])::(rowF (pt none 0) (cellsL [])::(y.fsN v++sgF x s)))))) from List.mem_append_left _ h),new_up (new3 _ h)⟩
  have k2:¬ v.ph=2:=by have:(v.ph==2)=false:=g2;simpa using this
  rw [if_neg k2] at hz ⊢
  conv=>arg 5;whnf
  refine wp_br (fun g3=>?_) (fun g3=>?_)
  ·have k3:v.ph=3:=by have:(v.ph==3)=true:=g3;simpa using this
   rw [if_pos k3] at hz ⊢
   have AP:=fun w hM hyf hxf=>hAP w hM rfl hyf hxf
   generalize applyS v s=R at *
   obtain ⟨v1,s1,e1,p1⟩:=R
   obtain ⟨h1,h2,h3⟩:=hap
   have h1:v=v1:=h1.symm
   have h2:e1=[]:=h2
   have h3:p1=false:=h3
   subst h1 h2 h3
   have hu:unl ⟨v,s1,[],false⟩=⟨⟨4,v.i,v.t,v.P,v.N⟩,s1,[],false⟩:=rfl
   rw [hu] at hz ⊢
   conv=>arg 5;whnf
   refine meetEt Ea.v1 (f:=68) ⟨v,s1,[],false⟩ (y.fsN v++sgF x s) (fun ψ h=>(show ψ∈(rowF (pt none 0) (cellsE [])::(rowF (pt none 0) (cellsL [])::(y.fsN v++sgF x s))) from .tail _ (.tail _ h))) rfl (by kernel_rfl) (fun β ρ w' hM'=>AP w' (hM.later hM'.below) (fun φ hφ g hg=>(hM'.fact φ (show φ∈(rowF (pt none 0) (cellsE [])::(rowF (pt none 0) (cellsL [])::(y.fsN v++sgF x s))) from .tail _ (.tail _ (List.mem_append_left _ hφ))) g hg).2) (fun φ hφ g hg=>(hM'.fact φ (show φ∈(rowF (pt none 0) (cellsE [])::(rowF (pt none 0) (cellsL [])::(y.fsN v++sgF x s))) from .tail _ (.tail _ (List.mem_append_right _ hφ))) g hg).2)) (fun a ha hnew=>?_)
   obtain ⟨y1,x1,ea,ec⟩:=a
   obtain ⟨hy1,hx1,_⟩:=ha
   have hx1:Sgo x1 s1:=hx1
   conv=>arg 5;whnf
   refine meetEk (f:=59) (⟨4,v.i,v.t,v.P,v.N⟩:Ek) rfl (by kernel_rfl) (fun β ρ w' hM'=>copied (⟨4,v.i,v.t,v.P,v.N⟩:Ek) y w' hy (fun φ hφ g hg=>(hM'.fact φ (show φ∈((⟨y1,x1,ea,ec⟩:Ea).fs ⟨v,s1,[],false⟩++(rowF (pt none 0) (cellsE [])::(rowF (pt none 0) (cellsL [])::(y.fsN v++sgF x s)))) from List.mem_append_right _ (.tail _ (.tail _ (List.mem_append_left _ hφ)))) g hg).2) hz.1.1 hz.1.2.1 hz.1.2.2) (fun y2 hy2 new2=>?_)
   conv=>arg 5;whnf
   refine meetSn (f:=60) s1 rfl (by kernel_rfl) (fun β ρ w' hM'=>copiedE s1 x1 w' hx1 (fun φ hφ g hg=>(hM'.fact φ (show φ∈(y2.fsN (⟨4,v.i,v.t,v.P,v.N⟩:Ek)++((⟨y1,x1,ea,ec⟩:Ea).fs ⟨v,s1,[],false⟩++(rowF (pt none 0) (cellsE [])::(rowF (pt none 0) (cellsL [])::(y.fsN v++sgF x s))))) from List.mem_append_right _ (List.mem_append_left _ (.tail _ (List.mem_append_right _ hφ)))) g hg).2) hz.2.1 (by rw [sgs_len hx1];exact hz.2.2.1) (sgs_n hx1 hz.2.2.2)) (fun x2 hx2 new3=>?_)
   conv=>arg 5;whnf
   refine wp_back fun β ρ w' hM'=>et_mk (r:=⟨(⟨4,v.i,v.t,v.P,v.N⟩:Ek),s1,[],false⟩) ⟨y2,x2,none,0⟩ ⟨hy2,hx2,sl0⟩ rfl hM' fun φ hφ g hg=>?_
   rcases List.mem_cons.1 hφ with rfl | hφ
   ·cases hg
   ·rcases List.mem_append.1 hφ with h | h
    ·exact ⟨(show φ∈(sgF x2 s1++(y2.fsN (⟨4,v.i,v.t,v.P,v.N⟩:Ek)++((⟨y1,x1,ea,ec⟩:Ea).fs ⟨v,s1,[],false⟩++(rowF (pt none 0) (cellsE [])::(rowF (pt none 0) (cellsL [])::(y.fsN v++sgF x s)))))) from List.mem_append_right _ (List.mem_append_left _ h)),new_up (new2 _ h)⟩
    ·exact ⟨(show φ∈(sgF x2 s1++(y2.fsN (⟨4,v.i,v.t,v.P,v.N⟩:Ek)++((⟨y1,x1,ea,ec⟩:Ea).fs ⟨v,s1,[],false⟩++(rowF (pt none 0) (cellsE [])::(rowF (pt none 0) (cellsL [])::(y.fsN v++sgF x s)))))) from List.mem_append_left _ h),new_up (new3 _ h)⟩
  have k3:¬ v.ph=3:=by have:(v.ph==3)=false:=g3;simpa using this
  rw [if_neg k3] at hz ⊢
  have k4:v.ph=4:=by omega
  conv=>arg 5;whnf
  refine wp_br (fun _=>?_) (fun g4=>absurd k4 (by have:(v.ph==4)=false:=g4;simpa using this))
  have TK:=fun w hyf hxf=>give_ v y who s x w hy hyf hx hxf hs0.1 (hi (.inr k4))
  have hev:(giveR v who s).ev=[]∧(giveR v who s).p=false:=⟨rfl,rfl⟩
  generalize giveR v who s=R at *
  obtain ⟨v1,s1,e1,p1⟩:=R
  obtain ⟨h1,h2⟩:=hev
  have h1:e1=[]:=h1
  have h2:p1=false:=h2
  subst h1 h2
  conv=>arg 5;whnf
  refine meetEt Ea.v2 (f:=69) ⟨v1,s1,[],false⟩ (y.fsN v++sgF x s) (fun ψ h=>(show ψ∈(rowF (pt none 0) (cellsE [])::(rowF (pt none 0) (cellsL [])::(y.fsN v++sgF x s))) from .tail _ (.tail _ h))) rfl (by kernel_rfl) (fun β ρ w' hM'=>TK w' (fun φ hφ g hg=>(hM'.fact φ (show φ∈(rowF (pt none 0) (cellsE [])::(rowF (pt none 0) (cellsL [])::(y.fsN v++sgF x s))) from .tail _ (.tail _ (List.mem_append_left _ hφ))) g hg).2) (fun φ hφ g hg=>(hM'.fact φ (show φ∈(rowF (pt none 0) (cellsE [])::(rowF (pt none 0) (cellsL [])::(y.fsN v++sgF x s))) from .tail _ (.tail _ (List.mem_append_right _ hφ))) g hg).2)) (fun a ha hnew=>?_)
  obtain ⟨y1,x1,ea,ec⟩:=a
  obtain ⟨hy1,hx1,he1⟩:=ha
  have hy1:y1.ok v1.P:=hy1
  have hx1:Sgo x1 s1:=hx1
  conv=>arg 5;whnf
  refine wp_end ⟨rfl,⟨⟨v1,s1,[],false⟩,⟨y1,x1,none,0⟩⟩,⟨rfl,⟨hy1,hx1,sl0⟩,fun φ hφ=>(List.mem_cons.1 hφ).elim (fun e=>by subst e;intro g hg;cases hg) (fun h=>hnew φ (.tail _ h))⟩,⟨by repeat' first | exact trivial | refine ⟨.inl rfl,?_⟩ | refine ⟨.inr rfl,?_⟩,⟨by repeat' first | exact trivial | refine ⟨.inl rfl,?_⟩ | refine ⟨.inr rfl,?_⟩,by repeat' first | exact trivial | refine ⟨.inl rfl,?_⟩ | refine ⟨.inr rfl,?_⟩,fun φ h=>(fun h=>(List.mem_append.1 h).elim (fun h=>(List.mem_cons.1 h).elim (fun e=>e▸List.mem_append_right _ (.head _)) fun h=>List.mem_append_left _ (.tail _ h)) fun h=>List.mem_append_right _ (.tail _ (.tail _ h))) (show φ∈((⟨y1,x1,none,0⟩:Ea).fs ⟨v1,s1,[],false⟩++(y.fsN v++sgF x s)) from h)⟩,rfl⟩,Nat.zero_lt_one⟩
end Go.Proofs.YtfhgkkcpkcjbmaaGreatDoor.evict
namespace Go.Proofs.YtfhgkkcpkcjbmaaGreatDoor.evict
open Go.RowKit Sx txn queue greedy shard pool Go.Proofs.YtfhgkkcpkcjbmaaGreatDoor.look lock Go.Proofs.YtfhgkkcpkcjbmaaGreatDoor.task
theorem worst_s {s:Sg} (hm:mayS s=true) {t:Tx} (hw:worstV ((joinS s.S).map toA)=(t,true)):∃(κ:Nat) (q:List PA×Int),fnv.shardV t.s s.C.sh=κ∧s.S[κ]?=some q∧(0≤t.s∧t.s≤255)∧findV (getP q.1 t.s).2.2 t.n=(t,true):=by
 obtain ⟨x,hx,ht⟩:=worst_in (L:=(joinS s.S).map toA) (by rw [hw])
 rw [hw] at ht
 obtain ⟨p,hp,rfl⟩:=List.mem_map.1 hx
 have ht:t∈p.2.2:=ht
 obtain ⟨k,q,hq,hpq⟩:=join_mem.1 hp
 obtain ⟨_,h2,ho⟩:=shCheck_iff.1 (may_shard hm hq)
 obtain ⟨hg,hk⟩:=h2 p hpq
 obtain ⟨⟨g1,g2,g3,g4,g5,g6,g7,g8⟩,_⟩:=good_iff.1 hg
 have hs:t.s=p.1:=(rises_all g8 t ht).2.1
 exact ⟨k,q,by rw [hs];exact hk,hq,by rw [hs];exact ⟨g1,g2⟩,by rw [hs,getP_in ho hpq];exact find_self (s:=p.1) (b:=p.2.1) g8 ht⟩
theorem all_fits {s:Sg} {x:Sn} (hm:mayS s=true) (hx:Sgo x s):∀z∈allS x.S,Fits z.s:=fun z hz=>by
 obtain ⟨q,hq,hzq⟩:=List.mem_flatMap.1 hz
 have h1:shdP q∈s.S:=by rw [← hx.2.2.2];exact List.mem_map.2 ⟨q,hq,rfl⟩
 obtain ⟨k,hk⟩:=List.mem_iff_getElem?.1 h1
 obtain ⟨_,h2,_⟩:=shCheck_iff.1 (may_shard hm hk)
 obtain ⟨⟨g1,g2,_⟩,_⟩:=good_iff.1 (h2 (acP z) (List.mem_map.2 ⟨z,hzq,rfl⟩)).1
 have g1:0≤z.s:=g1
 have g2:z.s≤255:=g2
 exact ⟨by omega,by omega⟩
theorem all_len {s:Sg} {x:Sn} (hm:mayS s=true) (hx:Sgo x s):(allS x.S).length≤100000:=by
 have key:∀(S:List Shd),(∀q∈S,q.L.length≤256)→(allS S).length≤S.length*256:=by
  intro S
  induction S with
  | nil=>intro _;simp [allS]
  | cons q S ih=>
   intro h
   have h1:=h q (.head _)
   have h2:=ih fun p hp=>h p (.tail _ hp)
   unfold allS at *
   rw [List.flatMap_cons,List.length_append,List.length_cons]
   omega
 have h1:=key x.S fun q hq=>by
  have h2:shdP q∈s.S:=by rw [← hx.2.2.2];exact List.mem_map.2 ⟨q,hq,rfl⟩
  obtain ⟨k,hk⟩:=List.mem_iff_getElem?.1 h2
  have:=may_len hm hk
  have h3:(q.L.map acP).length≤256:=this
  rw [List.length_map] at h3
  exact h3
 have:=(may_small hm).2
 have:=sgs_len hx
 omega
theorem shd_at {s:Sg} {x:Sn} (hm:mayS s=true) (hx:Sgo x s) {κ:Nat} {Q:List PA×Int} (hQ:s.S[κ]?=some Q):∃q,x.S[κ]?=some q∧shdP q=Q∧q.n≤100000∧shQ s κ=Q:=by
 rw [← hx.2.2.2,List.getElem?_map] at hQ
 cases hq:x.S[κ]? with
 | none=>rw [hq] at hQ;cases hQ
 | some q=>
  rw [hq] at hQ
  have hQ:shdP q=Q:=Option.some.inj hQ
  have hS:s.S[κ]?=some Q:=by rw [← hx.2.2.2,List.getElem?_map,hq,← hQ];rfl
  have h1:=may_len hm hS
  have h2:q.L.length≤256:=by rw [← hQ] at h1;have h3:(q.L.map acP).length≤256:=h1;rw [List.length_map] at h3;exact h3
  have h4:=(hx.2.2.1 q (List.mem_of_getElem? hq)).2.1
  refine ⟨q,rfl,hQ,by omega,?_⟩
  unfold shQ
  rw [show ((κ:Int)).toNat=κ from rfl,hS]
  rfl
theorem drop_dl (p:PA) (n:Int) (h:p.2.2.length≤16) (hd:∀t∈p.2.2,t.d.size≤maxLen):Fits (dropL p n).dl:=(look_szd (C:=⟨1,0,1,1,0,1,1,1⟩) (p:=p) (O:=⟨1,0,n,0,ByteArray.empty⟩) h hd).2.2.2.2
theorem get_16 {s:Sg} (hm:mayS s=true) {k:Nat} {Q:List PA×Int} (hQ:s.S[k]?=some Q) (z:Int):(getP Q.1 z).2.2.length≤16:=by
 rcases getP_or Q.1 z with ⟨g1,_⟩ | ⟨g1,_⟩
 ·have:=((shCheck_iff.1 (may_shard hm hQ)).2.1 _ g1).1
  have:=(good_iff.1 this).1
  omega
 ·rw [g1];exact Nat.zero_le _
theorem choose_s (v:Ek) (y:Pn) (s:Sg) (x:Sn) (w:World) (hM:Most w) (hm:mayS s=true) (hy:y.ok v.P) (hyf:∀φ∈y.fsN v,∀g,φ.g=some g→∃o,w.heap[g]?=some o∧φ.holds o) (hx:Sgo x s) (hxf:∀φ∈sgF x s,∀g,φ.g=some g→∃o,w.heap[g]?=some o∧φ.holds o) :
  Calls Tryz.prog 67 (List.toArray [ekV v y,sgV s x]) w fun e w'=>Et Ea.v4 w w' (y.fsN v++sgF x s) e (chooseS v s):=by
 have hcf:=cfg_bd (may_iff.1 hm).1
 have hS8:=(may_small hm).2
 have hxl:=sgs_len hx
 have hso:Fits s.C.so:=⟨by omega,by omega⟩
 have hW:=fun {t} h=>worst_s (t:=t) hm h
 unfold chooseS
 generalize hwz:worstV ((joinS s.S).map toA)=wz at *
 obtain ⟨wt,wb⟩:=wz
 cases wb with
 | false=>
  have h:=choose_ v y s x 0 ⟨none,0,0,[],0⟩ wt false w hM hy hyf hx hxf (by omega) (all_len hm hx) (all_fits hm hx) hso hwz (fun h=>by cases h) (drop_dl _ _ (Nat.zero_le _) (fun t ht=>by cases ht))
  unfold chooseR at h ⊢
  rw [if_neg (fun h=>by cases h.1)] at h ⊢
  exact h
 | true=>
  obtain ⟨κ,Q,hκ,hQ,_,_⟩:=hW rfl
  obtain ⟨q,hq,hqQ,hn,hsh⟩:=shd_at hm hx hQ
  have e1:q.L.map acP=Q.1:=congrArg Prod.fst hqQ
  have h:=choose_ v y s x κ q wt true w hM hy hyf hx hxf (by omega) (all_len hm hx) (all_fits hm hx) hso hwz (fun _=>⟨hκ,hq,hn⟩) (by
   rw [e1]
   refine drop_dl _ _ (get_16 hm hQ _) fun t ht=>?_
   rcases getP_or Q.1 wt.s with ⟨g1,_⟩ | ⟨g1,_⟩
   ·exact sgs_d hx Q (List.mem_of_getElem? hQ) _ g1 t ht
   ·rw [g1] at ht;cases ht)
  rw [e1] at h
  show Calls _ _ _ _ fun e w'=>Et Ea.v4 w w' _ e (chooseR v s wt true (dropL (getP (shQ s (fnv.shardV wt.s s.C.sh)).1 wt.s) wt.n))
  rw [hκ,hsh]
  exact h
theorem kap_s {s:Sg} (hm:mayS s=true) (z:Int) (h:¬ fnv.shardV z s.C.sh<0):∃(κ:Nat) (Q:List PA×Int),fnv.shardV z s.C.sh=κ∧s.S[κ]?=some Q:=by
 have hcf:=cfg_bd (may_iff.1 hm).1
 have h3:=(may_iff.1 hm).2.2.1
 have hz:0≤z∧z≤255:=by
  by_cases hz:0≤z∧z≤255
  ·exact hz
  ·exact absurd (by unfold fnv.shardV;rw [if_neg (fun k=>hz ⟨k.1,k.2.1⟩)];decide) h
 have hb:=shardV_bd (s:=z) (n:=s.C.sh) hz ⟨hcf.1,hcf.2.1⟩
 exact ⟨(fnv.shardV z s.C.sh).toNat,_,by omega,List.getElem?_eq_getElem (by omega)⟩
theorem apply_s (v:Ek) (y:Pn) (s:Sg) (x:Sn) (w:World) (hM:Most w) (hm:mayS s=true) (hy:y.ok v.P) (hyf:∀φ∈y.fsN v,∀g,φ.g=some g→∃o,w.heap[g]?=some o∧φ.holds o) (hx:Sgo x s) (hxf:∀φ∈sgF x s,∀g,φ.g=some g→∃o,w.heap[g]?=some o∧φ.holds o) (hPl:v.P.l.length≤1000000) (hPd:∀z∈v.P.l,z.d.size≤maxLen) :
  Calls Tryz.prog 68 (List.toArray [ekV v y,sgV s x]) w fun e w'=>Et Ea.v1 w w' (y.fsN v++sgF x s) e (applyS v s):=by
 have hS8:=(may_small hm).2
 have hxl:=sgs_len hx
 unfold applyS
 by_cases hκ:fnv.shardV v.t.s s.C.sh<0
 ·rw [if_pos hκ]
  refine (apply_no v y s x w hκ).mono fun e w' ⟨he,hb⟩=>⟨⟨y,x,none,0⟩,⟨hy,hx,sl0⟩,he,hb,fun φ hφ g hg=>?_⟩
  rcases List.mem_cons.1 hφ with rfl | hφ
  ·cases hg
  ·have hf:∃o,w.heap[g]?=some o∧φ.holds o:=(List.mem_append.1 hφ).elim (fun h=>hyf φ h g hg) (fun h=>hxf φ h g hg)
   obtain ⟨o,ho,hh⟩:=hf
   exact ⟨.inr ⟨φ,hφ,hg⟩,o,(hb.block g (Array.getElem?_eq_some_iff.1 ho).1).trans ho,hh⟩
 ·rw [if_neg hκ]
  obtain ⟨κ,Q,hk,hQ⟩:=kap_s hm v.t.s hκ
  obtain ⟨q,hq,hqQ,hn,hsh⟩:=shd_at hm hx hQ
  have h:=apply_yes v y s x κ q w hM hy hyf hx hxf hk hq hn (by omega) hPl hPd
  rw [hk,hsh,← hqQ]
  exact h
theorem apply_keeps (v:Ek) (s:Sg):(applyS v s).v=v∧(applyS v s).ev=[]∧(applyS v s).p=false:=by
 unfold applyS
 split <;> exact ⟨rfl,rfl,rfl⟩
theorem able_e {v:Ek} {who:Int} {s:Sg} (h:ableE v who s=true):1≤who∧mayS s=true∧(0≤v.ph∧v.ph≤4)∧(v.ph=1∨v.ph=4→0≤v.i∧v.i<s.l.length):=by
 unfold ableE at h
 split at h
 ·cases h
 ·rename_i h1
  have hw:1≤who:=Decidable.byContradiction fun k=>h1 (.inl (by omega))
  have hm:mayS s=true:=by
   cases e:mayS s with
   | true=>rfl
   | false=>exact absurd (.inr e) h1
  refine ⟨hw,hm,?_⟩
  split at h
  ·exact ⟨by omega,fun k=>by omega⟩
  ·split at h
   ·rename_i _ h3
    refine ⟨by omega,fun _=>?_⟩
    unfold freeB at h
    rw [Bool.and_eq_true] at h
    exact has_iff.1 h.1
   ·split at h
    ·exact ⟨by omega,fun k=>by omega⟩
    ·split at h
     ·refine ⟨by omega,fun _=>?_⟩
      exact (held_has.1 h).1
     ·cases h
end Go.Proofs.YtfhgkkcpkcjbmaaGreatDoor.evict
namespace Go.Proofs.YtfhgkkcpkcjbmaaGreatDoor.evict
open Go.RowKit Sx txn queue greedy shard pool Go.Proofs.YtfhgkkcpkcjbmaaGreatDoor.look lock Go.Proofs.YtfhgkkcpkcjbmaaGreatDoor.task
structure Gd (v:Ek) (s:Sg):Prop where
 l:v.P.l.length≤1000
 d:∀z∈v.P.l,z.d.size≤maxLen
 e:v.P.ev.length≤1000
 r:v.P.r.l.length≤1000
 s:Ssz s
theorem Gd.esz {v:Ek} {s:Sg} (h:Gd v s):Esz v:=⟨by have:=h.l;omega,by have:=h.e;omega,by have:=h.r;omega⟩
theorem ssz_may {s:Sg} (hm:mayS s=true) (l:List Int) (hl:l.length=s.l.length) (t:Int):Ssz ⟨s.C,l,t,s.m,s.S⟩:=by
 obtain ⟨l8,S8⟩:=may_small hm
 refine ⟨by show l.length≤_;omega,by show s.S.length≤_;omega,fun q hq=>?_⟩
 obtain ⟨k,hk⟩:=List.mem_iff_getElem?.1 hq
 have:=may_len hm hk
 omega
theorem Gd.step {v:Ek} {who:Int} {s:Sg} (h:Gd v s) (hd:∀q∈s.S,∀p∈q.1,∀z∈p.2.2,z.d.size≤maxLen):Gd (stepE v who s).v (stepE v who s).s:=by
 cases ha:ableE v who s with
 | false=>
  have e:stepE v who s=⟨v,s,[],false⟩:=if_neg (by rw [ha];simp)
  rw [e]
  exact h
 | true=>
  have e:stepE v who s=phaseE v who s:=if_pos ha
  rw [e]
  obtain ⟨hw,hm,hph,hi⟩:=able_e ha
  obtain ⟨l8,S8⟩:=may_small hm
  have hs:=ssz_may hm
  have hz:∀n i,Gd (⟨n,i,v.t,v.P,v.N⟩:Ek) s:=fun _ _=>⟨h.l,h.d,h.e,h.r,h.s⟩
  have hf:∀n i t c s2,Ssz s2→Gd (⟨n,i,t,failL c,[]⟩:Ek) s2:=fun _ _ _ _ _ h2=>⟨Nat.zero_le _,fun z hz=>(by cases hz),Nat.zero_le _,Nat.zero_le _,h2⟩
  unfold phaseE
  split
  ·exact hf _ _ _ _ _ h.s
  ·split
   ·show Gd (if v.i+1=s.l.length then (⟨2,0,v.t,v.P,v.N⟩:Ek) else ⟨v.ph,v.i+1,v.t,v.P,v.N⟩) ⟨s.C,takeV s.l v.i who,s.t,s.m,s.S⟩
    have h2:=hs (takeV s.l v.i who) (task.take_len _ _ _) s.t
    split <;> exact ⟨h.l,h.d,h.e,h.r,h2⟩
   ·split
    ·have hG:Gd (chooseS v s).v (chooseS v s).s:=by
      have key:∀n i t t2,worstV ((joinS s.S).map toA)=(t,true)→Gd (⟨n,i,t,dropL (getP (shQ s (fnv.shardV t.s s.C.sh)).1 t.s) t.n,[]⟩:Ek) ⟨s.C,s.l,t2,s.m,s.S⟩:=fun n i t t2 hw=>by
       obtain ⟨κ,Q,hκ,hQ,_,_⟩:=worst_s hm hw
       have hsh:shQ s κ=Q:=by unfold shQ;rw [show ((κ:Int)).toNat=κ from rfl,hQ];rfl
       rw [hκ,hsh]
       obtain ⟨n1,n2,n3,n4,n5⟩:=look_szd (C:=⟨1,0,1,1,0,1,1,1⟩) (p:=getP Q.1 t.s) (O:=⟨1,0,t.n,0,ByteArray.empty⟩) (get_16 hm hQ _) (fun z hz=>by
        rcases getP_or Q.1 t.s with ⟨g1,_⟩ | ⟨g1,_⟩
        ·exact hd Q (List.mem_of_getElem? hQ) _ g1 z hz
        ·rw [g1] at hz;cases hz)
       exact ⟨n1,n2,n3,n4,hs s.l rfl t2⟩
      unfold chooseS chooseR
      generalize hwz:worstV ((joinS s.S).map toA)=wz at *
      obtain ⟨wt,wb⟩:=wz
      split
      ·rename_i hb
       have hb1:wb=true:=hb.1
       subst hb1
       split
       ·exact key _ _ _ _ rfl
       ·exact key _ _ _ s.t rfl
      ·exact h
     unfold unl
     split
     ·exact hG
     ·exact ⟨hG.l,hG.d,hG.e,hG.r,hG.s⟩
    ·split
     ·obtain ⟨a1,a2,a3⟩:=apply_keeps v s
      unfold unl
      rw [if_neg (by rw [a3];simp)]
      refine ⟨by show (applyS v s).v.P.l.length≤_;rw [a1];exact h.l,by show ∀z∈(applyS v s).v.P.l,_;rw [a1];exact h.d,by show (applyS v s).v.P.ev.length≤_;rw [a1];exact h.e,by show (applyS v s).v.P.r.l.length≤_;rw [a1];exact h.r,?_⟩
      show Ssz (applyS v s).s
      unfold applyS
      split
      ·exact h.s
      ·rename_i hκ
       obtain ⟨κ,Q,hk,hQ⟩:=kap_s hm v.t.s hκ
       refine ⟨by show s.l.length≤_;omega,by show (s.S.set _ _).length≤_;rw [List.length_set];omega,fun q hq=>?_⟩
       rcases List.mem_or_eq_of_mem_set hq with hq | rfl
       ·exact h.s.2.2 q hq
       ·have hsh:shQ s κ=Q:=by unfold shQ;rw [show ((κ:Int)).toNat=κ from rfl,hQ];rfl
        rw [hk,hsh]
        have h1:=pool.setP_le Q.1 (v.P.s,v.P.b,v.P.l)
        have h2:=may_len hm hQ
        show (setP Q.1 (v.P.s,v.P.b,v.P.l)).length≤1000000
        omega
     ·show Gd (if v.i+1=s.l.length then v0 else (⟨v.ph,v.i+1,v.t,v.P,v.N⟩:Ek)) ⟨s.C,giveV s.l v.i who,s.t,s.m,s.S⟩
      have h2:=hs (giveV s.l v.i who) (task.give_len _ _ _) s.t
      split
      ·exact hf _ _ _ _ _ h2
      ·exact ⟨h.l,h.d,h.e,h.r,h2⟩
theorem step_ (v:Ek) (y:Pn) (who:Int) (s:Sg) (x:Sn) (w:World) (hM:Most w) (hy:y.ok v.P) (hyf:∀φ∈y.fsN v,∀g,φ.g=some g→∃o,w.heap[g]?=some o∧φ.holds o) (hx:Sgo x s) (hxf:∀φ∈sgF x s,∀g,φ.g=some g→∃o,w.heap[g]?=some o∧φ.holds o) (hG:Gd v s) :
  Calls Tryz.prog 27 (List.toArray [ekV v y,.int .i64 who,sgV s x]) w fun e w'=>Et Ea.v4 w w' (y.fsN v++sgF x s) e (stepE v who s):=by
 have hG2:=hG.step (who:=who) (sgs_d hx)
 exact step v y who s x w hM hy hyf hx hxf ⟨hG2.esz,hG2.s⟩ hG.s (fun h=>(able_e h).2.2.2) (fun h=>(able_e h).2.2.1) (fun w hM h hyf hxf=>choose_s v y s x w hM (able_e h).2.1 hy hyf hx hxf) (fun w hM h hyf hxf=>apply_s v y s x w hM (able_e h).2.1 hy hyf hx hxf hG.esz.1 hG.d) (apply_keeps v s)
end Go.Proofs.YtfhgkkcpkcjbmaaGreatDoor.evict
namespace Go.Proofs.YtfhgkkcpkcjbmaaGreatDoor.evict
open Go.RowKit Sx txn queue greedy shard pool Go.Proofs.YtfhgkkcpkcjbmaaGreatDoor.look lock Go.Proofs.YtfhgkkcpkcjbmaaGreatDoor.task
structure Rz where
 v:Ek
 s:Sg
 ev:List Ev
 n:Int
def stZ (who:Int) (z:Rz):Rz:=if ableE z.v who z.s=true then ⟨(stepE z.v who z.s).v,(stepE z.v who z.s).s,z.ev++(stepE z.v who z.s).ev,z.n+if (stepE z.v who z.s).p=true then 1 else 0⟩ else z
def runZ (who:Int) (z:Rz):Nat→Rz
 | 0=>z
 | k+1=>stZ who (runZ who z k)
theorem stay_z {who:Int} {z:Rz} (h:ableE z.v who z.s=false):∀k,runZ who z k=z
 | 0=>rfl
 | k+1=>by
  show stZ who (runZ who z k)=z
  rw [stay_z h k]
  unfold stZ
  rw [if_neg (by rw [h];simp)]
theorem run_add (who:Int) (z:Rz) (j:Nat):∀k,runZ who z (j+k)=runZ who (runZ who z j) k
 | 0=>rfl
 | k+1=>by
  show stZ who (runZ who z (j+k))=stZ who (runZ who (runZ who z j) k)
  rw [run_add who z j k]
theorem step_ev (v:Ek) (who:Int) (s:Sg):(stepE v who s).ev=[]∨(stepE v who s).ev=(stepE v who s).v.P.ev:=by
 have hu:∀r:Er,(r.ev=[]∨r.ev=r.v.P.ev)→(unl r).ev=[]∨(unl r).ev=(unl r).v.P.ev:=fun r h=>by
  unfold unl
  split <;> exact h
 unfold stepE
 split
 ·unfold phaseE
  split
  ·exact .inl rfl
  ·split
   ·exact .inl rfl
   ·split
    ·refine hu _ ?_
     unfold chooseS chooseR
     split
     ·split
      ·exact .inr rfl
      ·exact .inl rfl
     ·exact .inl rfl
    ·split
     ·exact hu _ (.inl (apply_keeps v s).2.1)
     ·exact .inl rfl
 ·exact .inl rfl
def Ea.vR (n:Int) (a:Ea) (r:Er):Value:=.tuple #[ekV r.v a.y,sgV r.s a.x,.slice a.ea r.ev.length a.ec,.int .i64 n]
theorem new_trans {W:World} {old mid:List Fact} {φ:Fact} (h:New W mid φ) (k:∀ψ∈mid,New W old ψ):New W old φ:=fun g hg=>(h g hg).elim .inl (fun ⟨ψ,h1,h2⟩=>k ψ h1 g h2)
section
variable {P : Program} {W : World} {G : Option Nat} {Q : Ending → World → Prop} {ds : List Deferred}
theorem wp_rows {a:Option Addr} {n size:Nat} {m:M} {k:List Value→Tree} (xs:List Value) (h1:xs.length=n*size) (h2:∀u∈xs,u.oneCell'=true) (h3:∀β ρ w,Mem W G m β ρ w→∀ad,a=some ad→∀(j:Nat) (u:Value),xs[j]?=some u→w.cell? (ad.add j)=some u) (h:(k xs).wpD P W G Q ds):(Tree.rows a n size m k).wpD P W G Q ds:=⟨xs,h1,h2,h3,h⟩
end
structure Ih where
 k:Nat
 z:Rz
 y:Pn
 x:Sn
structure Ih.ok (w:World) (FS:List Fact) (who:Int) (z0:Rz) (N:Nat) (i:Ih):Prop where
 k:i.k≤N
 z:i.z=runZ who z0 i.k
 y:i.y.ok i.z.v.P
 x:Sgo i.x i.z.s
 g:Gd i.z.v i.z.s
 e:i.z.ev.length≤i.k*1000
 n:0≤i.z.n∧i.z.n≤i.k
 f:∀φ∈i.y.fsN i.z.v++sgF i.x i.z.s,New w FS φ
theorem cut_seq {E:Env} {sch:List (Nat×(Ord×List Nat))} {c a b:Code} {m:M} {t:List T} {k:Exit→M→List T→Tree} {P:Program} {w:World} {G:Option Nat} {R:Ending→World→Prop} (hc:c=.seq a b)
  (h:∀B:Code,B=b→(exec E sch a m t (fun e m t=>match e with
   | .normal=>exec E sch B m t k
   | e=>k e m t)).wp P w G R):(exec E sch c m t k).wp P w G R:=by
 subst hc
 exact h b rfl
theorem run (v:Ek) (y:Pn) (who:Int) (s:Sg) (x:Sn) (most:Int) (w:World) (hM:Most w) (hy:y.ok v.P) (hyf:∀φ∈y.fsN v,∀g,φ.g=some g→∃o,w.heap[g]?=some o∧φ.holds o) (hx:Sgo x s) (hxf:∀φ∈sgF x s,∀g,φ.g=some g→∃o,w.heap[g]?=some o∧φ.holds o) (hG:Gd v s) :
  Calls Tryz.prog 19 (List.toArray [ekV v y,.int .i64 who,sgV s x,.int .i64 most]) w fun e w'=>∃z:Rz,z=runZ who ⟨v,s,[],0⟩ (min most 10000).toNat∧Gd z.v z.s∧(z.ev.length≤(min most 10000).toNat*1000∧0≤z.n∧z.n≤(min most 10000).toNat)∧Et (Ea.vR z.n) w w' (y.fsN v++sgF x s) e ⟨z.v,z.s,z.ev,false⟩:=by
 refine calls_of_exec Sxe.env_ok.keeps.soon_ Tryz.func19 rfl [(1,(lineT [0,2,1,3] [4,5],[])),(8,(line [0,1,2,3],[0,1])),(13,(line [0,1,2,3,4,5,6,7],[2,3]))] (schedQ_ok _ _ (by kernel_rfl)) (rowF (pt none 0) (cellsE [])::(rowF (pt none 0) (cellsL [])::(y.fsN v++sgF x s))) (fun φ hφ g hg=>(List.mem_cons.1 hφ).elim (fun e=>by subst e;cases hg) (fun hφ=>(List.mem_cons.1 hφ).elim (fun e=>by subst e;cases hg) (fun hφ=>(List.mem_append.1 hφ).elim (fun h=>hyf φ h g hg) (fun h=>hxf φ h g hg)))) ?_
 refine cut_seq rfl ?_
 intro B0 hB0
 conv=>arg 5;whnf
 subst hB0
 refine cut_seq rfl ?_
 intro B hB
 conv=>arg 5;whnf
 refine meetEk (f:=59) v rfl (by kernel_rfl) (fun β ρ w' hM'=>copied v y w' hy (fun φ hφ g hg=>(hM'.fact φ (show φ∈(rowF (pt none 0) (cellsE [])::(rowF (pt none 0) (cellsL [])::(y.fsN v++sgF x s))) from .tail _ (.tail _ (List.mem_append_left _ hφ))) g hg).2) hG.esz.1 hG.esz.2.1 hG.esz.2.2) (fun y1 hy1 new1=>?_)
 conv=>arg 5;whnf
 refine meetSn (f:=60) s rfl (by kernel_rfl) (fun β ρ w' hM'=>copiedE s x w' hx (fun φ hφ g hg=>(hM'.fact φ (show φ∈(y1.fsN v++(rowF (pt none 0) (cellsE [])::(rowF (pt none 0) (cellsL [])::(y.fsN v++sgF x s)))) from List.mem_append_right _ (.tail _ (.tail _ (List.mem_append_right _ hφ)))) g hg).2) hG.s.1 (by rw [sgs_len hx];exact hG.s.2.1) (sgs_n hx hG.s.2.2)) (fun x1 hx1 new2=>?_)
 conv=>arg 5;whnf
 subst hB
 conv=>arg 5;whnf
 refine wp_prim (.int .i64 (min most 10000)) (fun w=>by simp [Builtin.min_,Builtin.min2,Sem.run_bind];split <;> omega) ?_
 conv=>arg 5;whnf
 refine loop_nil 12 122 8 rfl ?_
 refine loop_rule Sxe.env_ok.keeps.soon_ [(1,(lineT [0,2,1,3] [4,5],[])),(8,(line [0,1,2,3],[0,1])),(13,(line [0,1,2,3,4,5,6,7],[2,3]))] (schedQ_ok _ _ (by kernel_rfl)) (Ih.ok w (y.fsN v++sgF x s) who ⟨v,s,[],0⟩ (min most 10000).toNat) (fun i=>(⟨[some ([.v (.int .i64 i.z.v.ph),.v (.int .i64 i.z.v.i),.v (.int .i64 i.z.v.t.s),.v (.int .i64 i.z.v.t.n),.v (.int .i64 i.z.v.t.t),.v (.int .i64 i.z.v.t.c),.v (.int .i64 i.z.v.t.g),.v (.string i.z.v.t.d),.v (.bool i.z.v.P.ch),.v (.int .i64 i.z.v.P.dl),.v (.int .i64 i.z.v.P.s),.v (.int .i64 i.z.v.P.b),.v (.slice i.y.a i.z.v.P.l.length i.y.c),.v (.slice i.y.ea i.z.v.P.ev.length i.y.ec),.v (.int .i64 i.z.v.P.r.e),.v (.int .i64 i.z.v.P.r.t.s),.v (.int .i64 i.z.v.P.r.t.n),.v (.int .i64 i.z.v.P.r.t.t),.v (.int .i64 i.z.v.P.r.t.c),.v (.int .i64 i.z.v.P.r.t.g),.v (.string i.z.v.P.r.t.d),.v (.slice i.y.ta i.z.v.P.r.l.length i.y.tc),.v (.int .i64 i.z.v.P.r.n)],51),some ([.v (.int .i64 i.z.s.C.sh),.v (.int .i64 i.z.s.C.so),.v (.int .i64 i.z.s.C.hd),.v (.int .i64 i.z.s.C.per),.v (.int .i64 i.z.s.C.bp),.v (.int .i64 i.z.s.C.fd),.v (.int .i64 i.z.s.C.wk),.v (.int .i64 i.z.s.C.rm),.v (.slice i.x.la i.z.s.l.length i.x.lc),.v (.int .i64 i.z.s.t),.v (.int .i64 i.z.s.m),.v (.slice i.x.sa i.x.S.length i.x.sc)],56),some ([.v (.int .i64 0),.v (.int .i64 0),.v (.int .i64 0),.v (.int .i64 0),.v (.int .i64 0),.v (.int .i64 0),.v (.int .i64 0),.v (.string ByteArray.empty),.v (.bool false),.v (.int .i64 0),.v (.int .i64 0),.v (.int .i64 0),.v (.slice none 0 0),.v (.slice none 0 0),.v (.int .i64 0),.v (.int .i64 0),.v (.int .i64 0),.v (.int .i64 0),.v (.int .i64 0),.v (.int .i64 0),.v (.string ByteArray.empty),.v (.slice none 0 0),.v (.int .i64 0)],51),some ([.v (.int .i64 0),.v (.int .i64 0),.v (.int .i64 0),.v (.int .i64 0),.v (.int .i64 0),.v (.int .i64 0),.v (.int .i64 0),.v (.int .i64 0),.v (.slice none 0 0),.v (.int .i64 0),.v (.int .i64 0),.v (.slice none 0 0)],56)],[some ⟨122,8,i.z.ev.length,cellsE i.z.ev⟩],rowF (pt none 0) (cellsE [])::(i.y.fsN i.z.v++sgF i.x i.z.s)⟩,[.any,.v (.int .i64 who),.any,.any,.p 0 0,.any,.p 1 0,.any,.p 2 0,.p 3 0,.any,.any,.r 0,.v (.int .i64 i.z.n),.any,.any,.any,.any,.any,.any,.any,.any,.any,.v (.int .i64 (min most 10000)),.v (.int .i64 i.k),.any,.any,.any,.any,.any,.any,.any,.any,.any,.any,.any,.any,.any,.any,.any,.any,.any,.any,.any,.any,.any,.any,.any,.any,.any,.any,.any,.any])) (fun i=>(min most 10000).toNat - i.k) ⟨0,⟨v,s,[],0⟩,y1,x1⟩ ⟨Nat.zero_le _,rfl,hy1,hx1,hG,Nat.zero_le _,⟨Int.le_refl _,Int.le_refl _⟩,fun φ hφ=>(List.mem_append.1 hφ).elim (fun h=>new_up (new1 _ h)) (fun h=>new_up (new2 _ h))⟩ ⟨by repeat' first | exact trivial | refine ⟨.inl rfl,?_⟩ | refine ⟨.inr rfl,?_⟩,⟨by repeat' first | exact trivial | refine ⟨.inl rfl,?_⟩ | refine ⟨.inr rfl,?_⟩,by repeat' first | exact trivial | refine ⟨.inl rfl,?_⟩ | refine ⟨.inr rfl,?_⟩,fun φ h=>(List.mem_cons.1 (show φ∈rowF (pt none 0) (cellsE [])::(y1.fsN v++sgF x1 s) from h)).elim (fun e=>by subst e;exact (show _∈(sgF x1 s++(y1.fsN v++(rowF (pt none 0) (cellsE [])::(rowF (pt none 0) (cellsL [])::(y.fsN v++sgF x s))))) from List.mem_append_right _ (List.mem_append_right _ (.head _)))) (fun h=>(List.mem_append.1 h).elim (fun h=>(show φ∈(sgF x1 s++(y1.fsN v++(rowF (pt none 0) (cellsE [])::(rowF (pt none 0) (cellsL [])::(y.fsN v++sgF x s))))) from List.mem_append_right _ (List.mem_append_left _ h))) (fun h=>(show φ∈(sgF x1 s++(y1.fsN v++(rowF (pt none 0) (cellsE [])::(rowF (pt none 0) (cellsL [])::(y.fsN v++sgF x s))))) from List.mem_append_left _ h)))⟩,rfl⟩ ?_
 rintro ⟨k,z,y2,x2⟩ ⟨hk,hz,hy2,hx2,hg,he,hn,hf⟩
 have hk:k≤(min most 10000).toNat:=hk
 have hz:z=runZ who ⟨v,s,[],0⟩ k:=hz
 have hy2:y2.ok z.v.P:=hy2
 have hx2:Sgo x2 z.s:=hx2
 have hg:Gd z.v z.s:=hg
 have he:z.ev.length≤k*1000:=he
 have hn:0≤z.n∧z.n≤k:=hn
 have hf:∀φ∈y2.fsN z.v++sgF x2 z.s,New w (y.fsN v++sgF x s) φ:=hf
 obtain ⟨zv,zs,ze,zn⟩:=z
 have AB:=fun w hM hS=>able zv y2 who zs x2 w hM hS (sgs_n hx2 hg.s.2.2) hg.s.1
 have STP:=fun w hM hyf hxf=>step_ zv y2 who zs x2 w hM hy2 hyf hx2 hxf hg
 have hg2:Gd (stepE zv who zs).v (stepE zv who zs).s:=hg.step (sgs_d hx2)
 have hev:=step_ev zv who zs
 conv=>arg 5;whnf
 refine wp_br (fun h3=>?_) (fun h3=>?_)
 rotate_left
 ·have hkn:k=(min most 10000).toNat:=by have h4:¬ (k:Int)<min most 10000:=of_decide_eq_false h3;omega
  conv=>arg 5;whnf
  refine wp_share fun u c_u h_u f_u=>?_
  conv=>arg 5;whnf
  refine wp_back fun β ρ w' hM'=>⟨⟨zv,zs,ze,zn⟩,by rw [← hkn];exact hz,hg,⟨Nat.le_trans he (Nat.mul_le_mul_right _ hk),hn.1,Int.le_trans hn.2 (Int.ofNat_le.2 hk)⟩,⟨y2,x2,u,c_u⟩,⟨hy2,hx2,h_u⟩,rfl,hM'.below,fun φ hφ g1 hg1=>?_⟩
  rcases List.mem_cons.1 hφ with rfl | hφ
  ·exact pt_mem _ hM' (show rowF u (cellsE ze)∈(rowF u (cellsE ze)::(rowF (pt none 0) (cellsE [])::(y2.fsN zv++sgF x2 zs))) from .head _) f_u g1 hg1
  ·exact ⟨hf φ hφ g1 hg1,(hM'.fact φ (show φ∈(rowF u (cellsE ze)::(rowF (pt none 0) (cellsE [])::(y2.fsN zv++sgF x2 zs))) from .tail _ (.tail _ hφ)) g1 hg1).2⟩
 have hlt:k<(min most 10000).toNat:=by have h4:(k:Int)<min most 10000:=of_decide_eq_true h3;omega
 cases hab:ableE zv who zs with
 | false=>
  rw [hab] at AB
  conv=>arg 5;whnf
  refine meetc (f:=31) (v:=.bool false) rfl (by kernel_rfl) (fun β ρ w' hM'=>AB w' (hM.later hM'.below) (sgs_of hM' hx2 fun φ hφ=>(show φ∈(rowF (pt none 0) (cellsE [])::(y2.fsN zv++sgF x2 zs)) from .tail _ (List.mem_append_right _ hφ)))) ?_
  conv=>arg 5;whnf
  refine wp_share fun u c_u h_u f_u=>?_
  conv=>arg 5;whnf
  refine wp_back fun β ρ w' hM'=>⟨⟨zv,zs,ze,zn⟩,by have e:=run_add who ⟨v,s,[],0⟩ k ((min most 10000).toNat - k);rw [show k+((min most 10000).toNat - k)=(min most 10000).toNat by omega,← hz,stay_z (z:=⟨zv,zs,ze,zn⟩) hab] at e;exact e.symm,hg,⟨Nat.le_trans he (Nat.mul_le_mul_right _ hk),hn.1,Int.le_trans hn.2 (Int.ofNat_le.2 hk)⟩,⟨y2,x2,u,c_u⟩,⟨hy2,hx2,h_u⟩,rfl,hM'.below,fun φ hφ g1 hg1=>?_⟩
  rcases List.mem_cons.1 hφ with rfl | hφ
  ·exact pt_mem _ hM' (show rowF u (cellsE ze)∈(rowF u (cellsE ze)::(rowF (pt none 0) (cellsE [])::(y2.fsN zv++sgF x2 zs))) from .head _) f_u g1 hg1
  ·exact ⟨hf φ hφ g1 hg1,(hM'.fact φ (show φ∈(rowF u (cellsE ze)::(rowF (pt none 0) (cellsE [])::(y2.fsN zv++sgF x2 zs))) from .tail _ (.tail _ hφ)) g1 hg1).2⟩
 | true=>
  rw [hab] at AB
  conv=>arg 5;whnf
  refine meetc (f:=31) (v:=.bool true) rfl (by kernel_rfl) (fun β ρ w' hM'=>AB w' (hM.later hM'.below) (sgs_of hM' hx2 fun φ hφ=>(show φ∈(rowF (pt none 0) (cellsE [])::(y2.fsN zv++sgF x2 zs)) from .tail _ (List.mem_append_right _ hφ)))) ?_
  have hst:runZ who ⟨v,s,[],0⟩ (k+1)=⟨(stepE zv who zs).v,(stepE zv who zs).s,ze++(stepE zv who zs).ev,zn+if (stepE zv who zs).p=true then 1 else 0⟩:=by show stZ who (runZ who ⟨v,s,[],0⟩ k)=_;rw [← hz];exact if_pos hab
  generalize stepE zv who zs=R at *
  obtain ⟨v3,s3,e3,p3⟩:=R
  conv=>arg 5;whnf
  refine meetEt Ea.v4 (f:=27) ⟨v3,s3,e3,p3⟩ (y2.fsN zv++sgF x2 zs) (fun ψ h=>(show ψ∈(rowF (pt none 0) (cellsE [])::(y2.fsN zv++sgF x2 zs)) from .tail _ h)) rfl (by kernel_rfl) (fun β ρ w' hM'=>STP w' (hM.later hM'.below) (fun φ hφ g hg=>(hM'.fact φ (show φ∈(rowF (pt none 0) (cellsE [])::(y2.fsN zv++sgF x2 zs)) from .tail _ (List.mem_append_left _ hφ)) g hg).2) (fun φ hφ g hg=>(hM'.fact φ (show φ∈(rowF (pt none 0) (cellsE [])::(y2.fsN zv++sgF x2 zs)) from .tail _ (List.mem_append_right _ hφ)) g hg).2)) (fun a ha hnew=>?_)
  obtain ⟨y4,x4,ea,ec⟩:=a
  obtain ⟨hy4,hx4,he4⟩:=ha
  have hy4:y4.ok v3.P:=hy4
  have hx4:Sgo x4 s3:=hx4
  have he4:Sl ea e3.length ec:=he4
  have hg2:Gd v3 s3:=hg2
  have hel:e3.length≤1000:=by have h1:e3=[]∨e3=v3.P.ev:=hev;rcases h1 with h1 | h1 <;> rw [h1];exact Nat.zero_le _;exact hg2.e
  conv=>arg 5;whnf
  refine wp_rows (cellsE e3) (by rw [cellsE_length]) (cellsE_one _) (fun β ρ w' hM' ad had j uu hu=>?_) ?_
  ·have h4:=hM'.at_ (show rowF (pt ea e3.length) (cellsE e3)∈((⟨y4,x4,ea,ec⟩:Ea).fs ⟨v3,s3,e3,p3⟩++(rowF (pt none 0) (cellsE [])::(y2.fsN zv++sgF x2 zs))) from List.mem_append_left _ (.head _))
   subst had
   rw [pt_pos (k:=0) (by have:=(List.getElem?_eq_some_iff.1 hu).1;rw [cellsE_length] at this;omega)] at h4
   exact h4.cell hu
  conv=>arg 5;whnf
  refine wp_must ⟨by show ze.length+e3.length≤maxLen;unfold maxLen;have h9:ze.length≤k*1000:=he;omega,by show (ze.length+e3.length)*72≤140737488355328;have h9:ze.length≤k*1000:=he;omega,fun h=>he4.2.2 h⟩ ?_
  conv=>arg 5;whnf
  refine wp_br (fun h8=>?_) (fun h8=>?_)
  ·skip
   have hp:p3=true:=h8
   subst hp
   have ec1:cellsE (ze++e3)=cellsE ze++cellsE e3:=cellsE_app _ _
   have el:(ze++e3).length=ze.length+e3.length:=List.length_append
   conv=>arg 5;whnf
   refine wp_must ⟨by show -9223372036854775808≤zn+1;have h9:0≤zn∧zn≤k:=hn;omega,by show zn+1≤9223372036854775807;have h9:0≤zn∧zn≤k:=hn;omega⟩ ?_
   conv=>arg 5;whnf
   refine wp_must ⟨by show -9223372036854775808≤(k:Int)+1;omega,by show (k:Int)+1≤9223372036854775807;omega⟩ ?_
   conv=>arg 5;whnf
   refine wp_end ⟨⟨k+1,⟨v3,s3,ze++e3,zn+1⟩,y4,x4⟩,⟨hlt,hst.symm,hy4,hx4,hg2,by show (ze++e3).length≤(k+1)*1000;have h9:ze.length≤k*1000:=he;omega,by show 0≤zn+1∧zn+1≤((k+1:Nat):Int);have h9:0≤zn∧zn≤k:=hn;omega,fun φ hφ=>new_trans (hnew φ (.tail _ hφ)) hf⟩,⟨by repeat' first | exact trivial | refine ⟨.inl rfl,?_⟩ | refine ⟨.inr rfl,?_⟩ | refine ⟨.inr (congrArg (fun z:Int=>Sx.T.v (Value.int .i64 z)) rfl.symm),?_⟩,⟨by repeat' first | exact trivial | refine ⟨.inl rfl,?_⟩ | refine ⟨.inr rfl,?_⟩ | refine ⟨.inr (congrArg (fun z:Int=>Sx.T.v (Value.int .i64 z)) rfl.symm),?_⟩,by simp only [];rw [ec1,el];repeat' first | exact trivial | refine ⟨.inl rfl,?_⟩ | refine ⟨.inr rfl,?_⟩ | refine ⟨.inr (congrArg (fun z:Int=>Sx.T.v (Value.int .i64 z)) rfl.symm),?_⟩,fun φ h=>(List.mem_cons.1 (show φ∈rowF (pt none 0) (cellsE [])::(y4.fsN v3++sgF x4 s3) from h)).elim (fun e=>by subst e;exact (show _∈((⟨y4,x4,ea,ec⟩:Ea).fs ⟨v3,s3,e3,true⟩++(rowF (pt none 0) (cellsE [])::(y2.fsN zv++sgF x2 zs))) from List.mem_append_right _ (.head _))) (fun h=>(show φ∈((⟨y4,x4,ea,ec⟩:Ea).fs ⟨v3,s3,e3,true⟩++(rowF (pt none 0) (cellsE [])::(y2.fsN zv++sgF x2 zs))) from List.mem_append_left _ (.tail _ h)))⟩,rfl⟩,by show (min most 10000).toNat - (k+1)<(min most 10000).toNat - k;omega⟩
  ·skip
   have hp:p3=false:=h8
   subst hp
   have ec1:cellsE (ze++e3)=cellsE ze++cellsE e3:=cellsE_app _ _
   have el:(ze++e3).length=ze.length+e3.length:=List.length_append
   conv=>arg 5;whnf
   refine wp_must ⟨by show -9223372036854775808≤(k:Int)+1;omega,by show (k:Int)+1≤9223372036854775807;omega⟩ ?_
   conv=>arg 5;whnf
   refine wp_end ⟨⟨k+1,⟨v3,s3,ze++e3,zn⟩,y4,x4⟩,⟨hlt,(by rw [hst];show (⟨v3,s3,ze++e3,zn⟩:Rz)=⟨v3,s3,ze++e3,zn+0⟩;rw [Int.add_zero]),hy4,hx4,hg2,by show (ze++e3).length≤(k+1)*1000;have h9:ze.length≤k*1000:=he;omega,by show 0≤zn∧zn≤((k+1:Nat):Int);have h9:0≤zn∧zn≤k:=hn;omega,fun φ hφ=>new_trans (hnew φ (.tail _ hφ)) hf⟩,⟨by repeat' first | exact trivial | refine ⟨.inl rfl,?_⟩ | refine ⟨.inr rfl,?_⟩ | refine ⟨.inr (congrArg (fun z:Int=>Sx.T.v (Value.int .i64 z)) rfl.symm),?_⟩,⟨by repeat' first | exact trivial | refine ⟨.inl rfl,?_⟩ | refine ⟨.inr rfl,?_⟩ | refine ⟨.inr (congrArg (fun z:Int=>Sx.T.v (Value.int .i64 z)) rfl.symm),?_⟩,by simp only [];rw [ec1,el];repeat' first | exact trivial | refine ⟨.inl rfl,?_⟩ | refine ⟨.inr rfl,?_⟩ | refine ⟨.inr (congrArg (fun z:Int=>Sx.T.v (Value.int .i64 z)) rfl.symm),?_⟩,fun φ h=>(List.mem_cons.1 (show φ∈rowF (pt none 0) (cellsE [])::(y4.fsN v3++sgF x4 s3) from h)).elim (fun e=>by subst e;exact (show _∈((⟨y4,x4,ea,ec⟩:Ea).fs ⟨v3,s3,e3,false⟩++(rowF (pt none 0) (cellsE [])::(y2.fsN zv++sgF x2 zs))) from List.mem_append_right _ (.head _))) (fun h=>(show φ∈((⟨y4,x4,ea,ec⟩:Ea).fs ⟨v3,s3,e3,false⟩++(rowF (pt none 0) (cellsE [])::(y2.fsN zv++sgF x2 zs))) from List.mem_append_left _ (.tail _ h)))⟩,rfl⟩,by show (min most 10000).toNat - (k+1)<(min most 10000).toNat - k;omega⟩
end Go.Proofs.YtfhgkkcpkcjbmaaGreatDoor.evict
namespace Go.Proofs.YtfhgkkcpkcjbmaaGreatDoor.evict
open Go.RowKit Sx txn queue greedy shard pool Go.Proofs.YtfhgkkcpkcjbmaaGreatDoor.look lock Go.Proofs.YtfhgkkcpkcjbmaaGreatDoor.task
theorem told (p:Pl) (x:Pn) (w:World):Calls Tryz.prog 63 (List.toArray [planV p x]) w fun e w'=>e=.returned (planV p x)∧Below w.heap.size w w':=by
 refine calls_of_exec Sxe.env_ok.keeps.soon_ Tryz.func63 rfl [] (schedQ_ok _ _ (by kernel_rfl)) [] (by simp) ?_
 conv=>arg 5;whnf
 exact wp_back fun β ρ w' hM'=>⟨rfl,hM'.below⟩
theorem ev_neqN (x y:Operand) (n:Int) (q:Ev) (w:World):(do eqGuard .neq 122 x y (.agg (evN n q).toArray) (.agg (evN n q).toArray);pure (Next.value (← binOp .neq 122 (.agg (evN n q).toArray) (.agg (evN n q).toArray))):Sem Next).run Tryz.prog w=.ok (.value (.bool false)) w:=by
 simp [evN,eqGuard,go_sem]
theorem reventsN (v:Ek) (a:Option Addr) (c:Nat) (a2:Option Addr) (c2:Nat) (w:World) (hs:Sl a v.P.ev.length c) (hrow:At w (pt a v.P.ev.length) (v.cs)) (hs2:Sl a2 v.P.ev.length c2) (hrow2:At w (pt a2 v.P.ev.length) (v.cs)) :
  Calls Tryz.prog 24 (List.toArray [.slice a v.P.ev.length c,.slice a2 v.P.ev.length c2]) w fun e w'=>e=.returned (.bool true)∧Below w.heap.size w w':=by
 have hn63:=hs.le
 refine calls_of_exec Sxs.env_ok.keeps Tryz.func24 rfl [(6,(line [0,1,2,3,4,5,6,7,8],[]))] (schedQ_ok _ _ (by kernel_rfl)) [rowF (pt a v.P.ev.length) (v.cs),rowF (pt a2 v.P.ev.length) (v.cs)] (fun φ hφ g hg=>by simp only [List.mem_cons,List.not_mem_nil,or_false] at hφ;rcases hφ with rfl | rfl <;> first | exact hrow g hg | exact hrow2 g hg) ?_
 conv=>arg 5;whnf
 refine wp_br (fun h=>absurd h (by simp)) (fun h=>?_)
 conv=>arg 5;whnf
 refine loop_rule Sxs.env_ok.keeps [(6,(line [0,1,2,3,4,5,6,7,8],[]))] (schedQ_ok _ _ (by kernel_rfl)) (fun k:Nat=>k≤v.P.ev.length) (fun k=>(⟨[],[],[rowF (pt a v.P.ev.length) (v.cs),rowF (pt a2 v.P.ev.length) (v.cs)]⟩,[.v (.slice a v.P.ev.length c),.v (.slice a2 v.P.ev.length c2),.any,.any,.any,.v (.int .i64 k),.any,.any,.any,.any,.any,.any,.any,.any,.any,.any,.any,.any,.any,.any,.any,.any,.any,.any,.any,.any])) (fun k=>v.P.ev.length - k) 0 (Nat.zero_le _) ⟨by repeat' first | exact trivial | refine ⟨.inl rfl,?_⟩ | refine ⟨.inr rfl,?_⟩,⟨by repeat' first | exact trivial | refine ⟨.inl rfl,?_⟩ | refine ⟨.inr rfl,?_⟩,by repeat' first | exact trivial | refine ⟨.inl rfl,?_⟩ | refine ⟨.inr rfl,?_⟩,fun _ h=>h⟩,rfl⟩ ?_
 intro k hk
 conv=>arg 5;whnf
 refine wp_br (fun h1=>?_) (fun h1=>?_)
 ·have hlt:k<v.P.ev.length:=by have h3:=of_decide_eq_true (show decide ((k:Int)<(v.P.ev.length:Int))=true from h1);omega
  obtain ⟨x,hx⟩:∃x,v.P.ev[k]?=some x:=⟨_,List.getElem?_eq_getElem (by omega)⟩
  obtain ⟨n,hn⟩:∃n,∀(j:Nat) (u:Value),(evN n x)[j]?=some u→v.cs[k*8+j]?=some u:=by rw [v.cs_eq];exact cellsN_at hx
  conv=>arg 5;whnf
  refine wp_must ⟨by omega,by show (k:Int)<(v.P.ev.length:Int);omega,hs.some hlt⟩ ?_
  conv=>arg 5;whnf
  refine readG Sxs.env_ok (vs:=evN n x) (sz:=8) (k:=k) rfl rfl (.head _) hlt (hs.some hlt) hn rfl ?_
  conv=>arg 5;whnf
  refine wp_must ⟨by omega,by show (k:Int)<(v.P.ev.length:Int);omega,hs2.some hlt⟩ ?_
  conv=>arg 5;whnf
  refine readG Sxs.env_ok (vs:=evN n x) (sz:=8) (k:=k) rfl rfl (by exact .tail _ (.head _)) hlt (hs2.some hlt) hn rfl ?_
  conv=>arg 5;whnf
  refine wp_prim (.bool false) (fun w=>ev_neqN _ _ n x w) ?_
  conv=>arg 5;whnf
  refine wp_must ⟨by show -9223372036854775808≤(k:Int)+1;omega,by show (k:Int)+1≤9223372036854775807;omega⟩ ?_
  conv=>arg 5;whnf
  refine wp_end ⟨k+1,hlt,⟨by repeat' first | exact trivial | refine ⟨.inl rfl,?_⟩ | refine ⟨.inr rfl,?_⟩,⟨by repeat' first | exact trivial | refine ⟨.inl rfl,?_⟩ | refine ⟨.inr rfl,?_⟩,by repeat' first | exact trivial | refine ⟨.inl rfl,?_⟩ | refine ⟨.inr rfl,?_⟩,fun _ h=>h⟩,rfl⟩,by show v.P.ev.length - (k+1)<v.P.ev.length - k;omega⟩
 ·skip
  conv=>arg 5;whnf
  exact wp_back fun β ρ w' hM'=>⟨rfl,hM'.below⟩
theorem rsameP (v:Ek) (x y:Pn) (w:World) (hx:x.ok v.P) (hy:y.ok v.P) (h1:∀φ∈x.fsN v,∀g,φ.g=some g→∃o,w.heap[g]?=some o∧φ.holds o) (h2:∀φ∈y.fsN v,∀g,φ.g=some g→∃o,w.heap[g]?=some o∧φ.holds o) :
  Calls Tryz.prog 62 (List.toArray [planV v.P x,planV v.P y]) w fun e w'=>e=.returned (.bool true)∧Below w.heap.size w w':=by
 refine calls_of_exec Sxe.env_ok.keeps.soon_ Tryz.func62 rfl [] (schedQ_ok _ _ (by kernel_rfl)) (x.fsN v++y.fsN v) (fun φ hφ g hg=>(List.mem_append.1 hφ).elim (fun h=>h1 φ h g hg) (fun h=>h2 φ h g hg)) ?_
 conv=>arg 5;whnf
 refine wp_prim (.bool true) (fun w=>by cases v.P.ch <;> rfl) ?_
 conv=>arg 5;whnf
 refine wp_g1 (fun _=>?_) (fun h=>by simp at h)
 conv=>arg 5;whnf
 refine meetc (f:=65) (v:=.bool true) rfl (by kernel_rfl) (fun β ρ w' hM'=>rsame v.P.s v.P.b v.P.l x.a v.P.l.length x.c y.a y.c w' hx.1 rfl (hM'.at_ (show rowF (pt x.a v.P.l.length) (cellsL v.P.l)∈x.fsN v++y.fsN v from List.mem_append_left _ (.head _))) hy.1 (hM'.at_ (show rowF (pt y.a v.P.l.length) (cellsL v.P.l)∈x.fsN v++y.fsN v from List.mem_append_right _ (.head _)))) ?_
 conv=>arg 5;whnf
 refine meetc (f:=24) (v:=.bool true) rfl (by kernel_rfl) (fun β ρ w' hM'=>reventsN v x.ea x.ec y.ea y.ec w' hx.2.1 (hM'.at_ (show rowF (pt x.ea v.P.ev.length) v.cs∈x.fsN v++y.fsN v from List.mem_append_left _ (.tail _ (.head _)))) hy.2.1 (hM'.at_ (show rowF (pt y.ea v.P.ev.length) v.cs∈x.fsN v++y.fsN v from List.mem_append_right _ (.tail _ (.head _))))) ?_
 conv=>arg 5;whnf
 refine meetc (f:=46) (v:=.bool true) rfl (by kernel_rfl) (fun β ρ w' hM'=>rsameR v.P.r x.ta x.tc y.ta y.tc w' hx.2.2 (hM'.at_ (show rowF (pt x.ta v.P.r.l.length) (cellsL v.P.r.l)∈x.fsN v++y.fsN v from List.mem_append_left _ (.tail _ (.tail _ (.head _))))) hy.2.2 (hM'.at_ (show rowF (pt y.ta v.P.r.l.length) (cellsL v.P.r.l)∈x.fsN v++y.fsN v from List.mem_append_right _ (.tail _ (.tail _ (.head _)))))) ?_
 conv=>arg 5;whnf
 exact wp_back fun β ρ w' hM'=>⟨rfl,hM'.below⟩
theorem ownP (p:Pl) (x:Pn) (w:World):Calls Tryz.prog 73 (List.toArray [planV p x]) w fun e w'=>e=.returned (planV p x)∧Below w.heap.size w w':=by
 refine calls_of_exec Sxe.env_ok.keeps Tryz.func73 rfl [] (schedQ_ok _ _ (by kernel_rfl)) [] (by simp) ?_
 conv=>arg 5;whnf
 exact wp_back fun β ρ w' hM'=>⟨rfl,hM'.below⟩
theorem toldV (v:Ek) (y:Pn) (w:World):Calls Tryz.prog 23 (List.toArray [ekV v y]) w fun e w'=>e=.returned (ekV v y)∧Below w.heap.size w w':=by
 refine calls_of_exec Sxe.env_ok.keeps Tryz.func23 rfl [(1,(line [0,1,2,3,4,5,6,7,8,9,10],[1]))] (schedQ_ok _ _ (by kernel_rfl)) [] (by simp) ?_
 conv=>arg 5;whnf
 refine meetc (f:=63) (v:=planV v.P y) rfl (by kernel_rfl) (fun β ρ w' hM'=>told v.P y w') ?_
 conv=>arg 5;whnf
 exact wp_back fun β ρ w' hM'=>⟨rfl,hM'.below⟩
theorem ownV (v:Ek) (y:Pn) (w:World):Calls Tryz.prog 30 (List.toArray [ekV v y]) w fun e w'=>e=.returned (ekV v y)∧Below w.heap.size w w':=by
 refine calls_of_exec Sxe.env_ok.keeps Tryz.func30 rfl [(1,(line [0,1,2,3,4,5,6,7,8,9,10],[1]))] (schedQ_ok _ _ (by kernel_rfl)) [] (by simp) ?_
 conv=>arg 5;whnf
 refine meetc (f:=73) (v:=planV v.P y) rfl (by kernel_rfl) (fun β ρ w' hM'=>ownP v.P y w') ?_
 conv=>arg 5;whnf
 exact wp_back fun β ρ w' hM'=>⟨rfl,hM'.below⟩
theorem tx_eq (x y:Operand) (t:Tx) (w:World):(do eqGuard .eql 38 x y t.val t.val;pure (Next.value (← binOp .eql 38 t.val t.val)):Sem Next).run Tryz.prog w=.ok (.value (.bool true)) w:=by
 simp [Tx.val,eqGuard,go_sem]
theorem rsameE (v:Ek) (y z:Pn) (w:World) (hy:y.ok v.P) (hz:z.ok v.P) (h1:∀φ∈y.fsN v,∀g,φ.g=some g→∃o,w.heap[g]?=some o∧φ.holds o) (h2:∀φ∈z.fsN v,∀g,φ.g=some g→∃o,w.heap[g]?=some o∧φ.holds o) :
  Calls Tryz.prog 22 (List.toArray [ekV v y,ekV v z]) w fun e w'=>e=.returned (.bool true)∧Below w.heap.size w w':=by
 refine calls_of_exec Sxe.env_ok.keeps Tryz.func22 rfl [] (schedQ_ok _ _ (by kernel_rfl)) (y.fsN v++z.fsN v) (fun φ hφ g hg=>(List.mem_append.1 hφ).elim (fun h=>h1 φ h g hg) (fun h=>h2 φ h g hg)) ?_
 conv=>arg 5;whnf
 refine wp_g1 (fun _=>?_) (fun h=>by simp at h)
 conv=>arg 5;whnf
 refine wp_g1 (fun _=>?_) (fun h=>by simp at h)
 conv=>arg 5;whnf
 refine wp_prim (.bool true) (fun w=>tx_eq _ _ v.t w) ?_
 conv=>arg 5;whnf
 refine meetc (f:=62) (v:=.bool true) rfl (by kernel_rfl) (fun β ρ w' hM'=>rsameP v y z w' hy hz (fun φ hφ g hg=>(hM'.fact φ (show φ∈y.fsN v++z.fsN v from List.mem_append_left _ hφ) g hg).2) (fun φ hφ g hg=>(hM'.fact φ (show φ∈y.fsN v++z.fsN v from List.mem_append_right _ hφ) g hg).2)) ?_
 conv=>arg 5;whnf
 exact wp_back fun β ρ w' hM'=>⟨rfl,hM'.below⟩
end Go.Proofs.YtfhgkkcpkcjbmaaGreatDoor.evict
namespace Go.Proofs.YtfhgkkcpkcjbmaaGreatDoor.evict
open Go.RowKit Sx txn queue greedy shard pool Go.Proofs.YtfhgkkcpkcjbmaaGreatDoor.look lock Go.Proofs.YtfhgkkcpkcjbmaaGreatDoor.task
theorem rsmallB (s b:Int) (l:List Tx) (a:Option Addr) (n c:Nat) (w:World) (hs:Sl a n c) (hn:n=l.length) (hrow:At w (pt a n) (cellsL l)) :
  Calls Tryz.prog 131 (List.toArray [acc s b a n c]) w fun e w'=>e=.returned (.bool (fewB l&&decide ((n:Int)≤30)))∧Below w.heap.size w w':=by
 refine calls_of_exec Sxe.env_ok.keeps.soon_ Tryz.func131 rfl [] (schedQ_ok _ _ (by kernel_rfl)) [rowF (pt a n) (cellsL l)] (at1 hrow) ?_
 conv=>arg 5;whnf
 refine meetc rfl (by kernel_rfl) (fun β ρ w' hM'=>rfew l a n c 30 w' hs hn (hM'.at_ List.mem_cons_self)) ?_
 conv=>arg 5;whnf
 exact wp_back fun β ρ w' hM'=>⟨rfl,hM'.below⟩
def fewT (t:Tk):Bool:=if ¬ (t.O.d.size:Int)≤500 then false else if (fewB t.P.l&&decide ((t.P.l.length:Int)≤30))=false then false else if ¬ (t.P.ev.length:Int)≤30 then false else if ¬ (t.r.l.length:Int)≤30 then false else decide ((t.P.r.l.length:Int)≤30)
theorem few16 (t:Tk) (y:Tn) (w:World) (hy:y.x.ok t.P) (hrow:At w (pt y.x.a t.P.l.length) (cellsL t.P.l)) :
  Calls Tryz.prog 72 (List.toArray [tkV t y]) w fun e w'=>e=.returned (.bool (fewT t))∧Below w.heap.size w w':=by
 have SM:=fun w hr=>rsmallB t.P.s t.P.b t.P.l y.x.a t.P.l.length y.x.c w hy.1 rfl hr
 have e:fewT t=if ¬ (t.O.d.size:Int)≤500 then false else if (fewB t.P.l&&decide ((t.P.l.length:Int)≤30))=false then false else if ¬ (t.P.ev.length:Int)≤30 then false else if ¬ (t.r.l.length:Int)≤30 then false else decide ((t.P.r.l.length:Int)≤30):=rfl
 rw [e]
 clear e
 refine calls_of_exec Sxe.env_ok.keeps Tryz.func72 rfl [] (schedQ_ok _ _ (by kernel_rfl)) [rowF (pt y.x.a t.P.l.length) (cellsL t.P.l)] (at1 hrow) ?_
 generalize (fewB t.P.l&&decide ((t.P.l.length:Int)≤30))=fb at *
 conv=>arg 5;whnf
 refine wp_g1 (fun g0=>?_) (fun g0=>?_)
 rotate_left
 ·rw [if_pos (of_decide_eq_false g0)]
  conv=>arg 5;whnf
  exact wp_back fun β ρ w' hM'=>⟨rfl,hM'.below⟩
 rw [if_neg (fun h=>h (of_decide_eq_true g0))]
 conv=>arg 5;whnf
 refine meetc (f:=131) (v:=.bool fb) rfl (by kernel_rfl) (fun β ρ w' hM'=>SM w' (hM'.at_ (.head _))) ?_
 cases fb with
 | false=>
  rw [if_pos rfl]
  conv=>arg 5;whnf
  exact wp_back fun β ρ w' hM'=>⟨rfl,hM'.below⟩
 | true=>
 rw [if_neg (by decide)]
 conv=>arg 5;whnf
 refine wp_g1 (fun g2=>?_) (fun g2=>?_)
 rotate_left
 ·rw [if_pos (of_decide_eq_false g2)]
  conv=>arg 5;whnf
  exact wp_back fun β ρ w' hM'=>⟨rfl,hM'.below⟩
 rw [if_neg (fun h=>h (of_decide_eq_true g2))]
 conv=>arg 5;whnf
 refine wp_g1 (fun g3=>?_) (fun g3=>?_)
 rotate_left
 ·rw [if_pos (of_decide_eq_false g3)]
  conv=>arg 5;whnf
  exact wp_back fun β ρ w' hM'=>⟨rfl,hM'.below⟩
 rw [if_neg (fun h=>h (of_decide_eq_true g3))]
 conv=>arg 5;whnf
 exact wp_back fun β ρ w' hM'=>⟨rfl,hM'.below⟩
def fewE (v:Ek):Bool:=if fewT ⟨⟨0,0,0,0,ByteArray.empty⟩,0,0,v.P,⟨0,tx0,[],0⟩,false⟩=false then false else decide ((v.t.d.size:Int)≤500)
theorem fewV (v:Ek) (y:Pn) (w:World) (hy:y.ok v.P) (hrow:At w (pt y.a v.P.l.length) (cellsL v.P.l)) :
  Calls Tryz.prog 29 (List.toArray [ekV v y]) w fun e w'=>e=.returned (.bool (fewE v))∧Below w.heap.size w w':=by
 have F:=fun w hr=>few16 ⟨⟨0,0,0,0,ByteArray.empty⟩,0,0,v.P,⟨0,tx0,[],0⟩,false⟩ ⟨y,none,0⟩ w hy hr
 have e:fewE v=if fewT ⟨⟨0,0,0,0,ByteArray.empty⟩,0,0,v.P,⟨0,tx0,[],0⟩,false⟩=false then false else decide ((v.t.d.size:Int)≤500):=rfl
 rw [e]
 clear e
 refine calls_of_exec Sxe.env_ok.keeps Tryz.func29 rfl [] (schedQ_ok _ _ (by kernel_rfl)) [rowF (pt y.a v.P.l.length) (cellsL v.P.l)] (at1 hrow) ?_
 generalize fewT ⟨⟨0,0,0,0,ByteArray.empty⟩,0,0,v.P,⟨0,tx0,[],0⟩,false⟩=fb at *
 conv=>arg 5;whnf
 refine meetc (f:=72) (v:=.bool fb) rfl (by kernel_rfl) (fun β ρ w' hM'=>F w' (hM'.at_ (.head _))) ?_
 cases fb with
 | false=>
  rw [if_pos rfl]
  conv=>arg 5;whnf
  exact wp_back fun β ρ w' hM'=>⟨rfl,hM'.below⟩
 | true=>
 rw [if_neg (by decide)]
 conv=>arg 5;whnf
 exact wp_back fun β ρ w' hM'=>⟨rfl,hM'.below⟩
theorem fewT_iff {t:Tk} (h:fewT t=true):fewB t.P.l=true∧t.P.l.length≤30∧t.P.ev.length≤30∧t.P.r.l.length≤30:=by
 unfold fewT at h
 by_cases h1:(t.O.d.size:Int)≤500
 ·rw [if_neg (fun q=>q h1)] at h
  cases h2:(fewB t.P.l&&decide ((t.P.l.length:Int)≤30)) with
  | false=>rw [h2,if_pos rfl] at h;cases h
  | true=>
   rw [h2,if_neg (by decide)] at h
   by_cases h3:(t.P.ev.length:Int)≤30
   ·rw [if_neg (fun q=>q h3)] at h
    by_cases h4:(t.r.l.length:Int)≤30
    ·rw [if_neg (fun q=>q h4)] at h
     have h5:=of_decide_eq_true h
     rw [Bool.and_eq_true] at h2
     have h6:=of_decide_eq_true h2.2
     exact ⟨h2.1,by omega,by omega,by omega⟩
    ·rw [if_pos h4] at h;cases h
   ·rw [if_pos h3] at h;cases h
 ·rw [if_pos h1] at h;cases h
theorem fewE_iff {v:Ek} (h:fewE v=true):v.t.d.size≤500∧fewB v.P.l=true∧v.P.l.length≤30∧v.P.ev.length≤30∧v.P.r.l.length≤30:=by
 unfold fewE at h
 cases h2:fewT ⟨⟨0,0,0,0,ByteArray.empty⟩,0,0,v.P,⟨0,tx0,[],0⟩,false⟩ with
 | false=>rw [h2,if_pos rfl] at h;cases h
 | true=>
  rw [h2,if_neg (by decide)] at h
  have h3:=of_decide_eq_true h
  exact ⟨by omega,fewT_iff h2⟩
end Go.Proofs.YtfhgkkcpkcjbmaaGreatDoor.evict
