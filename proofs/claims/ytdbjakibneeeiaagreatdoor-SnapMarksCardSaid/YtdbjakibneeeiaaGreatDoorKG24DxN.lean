/- Deep data: what any operation comes to is sound. -/
import Derived.Test.YtdbjakibneeeiaaGreatDoorKG23DxI
set_option linter.all false
set_option maxHeartbeats 4000000
set_option maxRecDepth 100000
namespace Go.Proofs.YtdbjakibneeeiaaGreatDoor.Sx
open Go.RowKit
variable {Ob : Nat → Prop}
section
variable {P : Program} {W : World} {Q : Ending → World → Prop} {ds : List Deferred} {B : World → Prop} {D : DE} {E : Env}
def dstill (o:Oper):Bool:=match o.op with
 | .call c=>match c.callee with
  | .builtin .len=>true
  | .builtin .min=>true
  | .builtin .max=>true
  | _=>false
 | .store _ _ _=>false
 | _=>true
def ostill (o:Oper):Bool:=dstill o&&(match o.op with | .makeSlice _ _ _=>false | _=>true)
theorem ostill_ms {E:Env} {o:Oper} (h:ostill o=true):(dstill o && !isMS E o)=true:=by
 unfold ostill at h
 rw [Bool.and_eq_true] at h
 rw [Bool.and_eq_true]
 refine ⟨h.1,?_⟩
 have h2:=h.2
 unfold isMS
 split
 ·rename_i ho;rw [ho] at h2;cases h2
 ·rfl
def dstillC (E:Env) (D:DE) (o:Oper) (td:List TD):Bool:=(dstill o && !isMS E o)||(match o.op with
 | .call c=>match c.callee with
  | .value (.func g)=>dcallF E D false g (c.args.toList.map (dev td))
  | _=>false
 | _=>false)
structure DE.Oks (D:DE) (E:Env) (P:Program) (B:World→Prop) (E':Env):Prop where
 ok:D.Ok E P B
 zero:E'.zero=E.zero
 agg:E'.agg=E.agg
 str:E'.str=E.str
 keep:E'.keep=true
 eok:E'.Ok P
theorem dvalsOf_relV {fs:List Fact}:∀{cs:List TD} {vs ws:List Value},dvalsOf cs=some vs→RelVs fs cs ws→ws=vs
 | [],vs,ws,h,k=>by cases h;exact k
 | .v x::cs,vs,ws,h,⟨y,ys,e,h1,h2⟩=>by
  simp only [dvalsOf,Option.map_eq_some_iff] at h
  obtain ⟨l,h3,rfl⟩:=h
  have h1:y=x:=h1
  rw [e,h1,dvalsOf_relV h3 h2]
 | .any::_,_,_,h,_=>by cases h
 | .d _ _::_,_,_,h,_=>by cases h
 | .g _::_,_,_,h,_=>by cases h
 | .u _::_,_,_,h,_=>by cases h
 | .p _ _::_,_,_,h,_=>by cases h
 | .fn _ _::_,_,_,h,_=>by cases h
 | .s _ _::_,_,_,h,_=>by cases h
 | .r _::_,_,_,h,_=>by cases h
 | .q _ _ _ _::_,_,_,h,_=>by cases h
 | .e _ _ _ _::_,_,_,h,_=>by cases h
theorem dnv_rel {fs:List Fact} {x:TD} {t:T} (h:RelT fs x t):RelT fs (dnv x) t:=by
 cases x with
 | g cs=>
  show RelT fs (match dvalsOf cs with | some vs=>.v (.agg (List.toArray vs)) | none=>.g cs) t
  cases hv:dvalsOf cs with
  | none=>exact h
  | some vs=>
   obtain ⟨y,rfl,ws,rfl,hr⟩:=h
   rw [dvalsOf_relV hv hr]
   exact rfl
 | _=>exact h
theorem lie_reps {R:Option Addr→List Value→Prop} (h0:R none []) {s:Sh}:∀n:Nat,LieN (LieV R s) (List.replicate n (Sh.z s)) (reps n (zvals s))
 | 0=>rfl
 | n+1=>⟨zvals s,reps n (zvals s),rfl,zvals_lie h0,lie_reps h0 n⟩
theorem valsOf_map:∀l:List Value,valsOf (l.map T.v)=some l
 | []=>rfl
 | x::l=>by simp only [List.map_cons,valsOf,valsOf_map l];rfl
theorem ones_map:∀{l:List Value},(∀u∈l,u.oneCell'=true)→onesT (l.map T.v)=true
 | [],_=>rfl
 | x::l,h=>by
  simp only [List.map_cons,onesT,Bool.and_eq_true]
  exact ⟨h x (.head _),ones_map fun u hu=>h u (.tail _ hu)⟩
theorem slice_to_run {P:Program} {ty e:TypeId} (hu:P.underlying ty=some (.slice e)) {i:TypeInfo} (hi:P.info? e=some i) (a:Option Addr) (n c j:Nat) (w:World) (h:j≤c):(do pure (Next.value (← Instr.sliceAt ty (.slice a n c) none (some (.int .i64 j)) none)):Sem Next).run P w=.ok (.value (.slice (if c=0 then a else a.map fun x=>x.add (0*i.size)) j c)) w:=by
 have h2:((j:Nat):Int)≤c:=by omega
 simp [Instr.sliceAt,Instr.slice,run_underlying hu,Sem.run_bind,go_sem,h2,sizeOf,typeInfo,hi]
theorem slice_from_run {P:Program} {ty e:TypeId} (hu:P.underlying ty=some (.slice e)) {i:TypeInfo} (hi:P.info? e=some i) (a:Option Addr) (n c j:Nat) (w:World) (h:j≤n):(do pure (Next.value (← Instr.sliceAt ty (.slice a n c) (some (.int .i64 j)) none none)):Sem Next).run P w=.ok (.value (.slice (if c=j then a else a.map fun x=>x.add (j*i.size)) (n - j) (c - j))) w:=by
 have h2:((j:Nat):Int)≤n:=by omega
 simp [Instr.sliceAt,Instr.slice,run_underlying hu,Sem.run_bind,go_sem,h2,sizeOf,typeInfo,hi]
theorem LieN.dropTake {α:Type} {Q:α→List Value→Prop} {z:Nat} (hz:∀x vs,Q x vs→vs.length=z):∀{L:List α} {vs:List Value} (j:Nat),LieN Q L vs→LieN Q (L.take j) (vs.take (j*z))∧LieN Q (L.drop j) (vs.drop (j*z))
 | [],vs,j,h=>by
  have h:vs=[]:=h
  rw [h];simp;exact rfl
 | x::L,vs,0,h=>by simp only [Nat.zero_mul,List.take_zero,List.drop_zero];exact ⟨rfl,h⟩
 | x::L,vs,j+1,⟨v1,v2,e,h1,h2⟩=>by
  obtain ⟨k1,k2⟩:=LieN.dropTake hz j h2
  have hl:=hz _ _ h1
  rw [e,Nat.succ_mul]
  simp only [List.take_succ_cons,List.drop_succ_cons]
  have e1:(v1++v2).take (j*z+z)=v1++v2.take (j*z):=by
   rw [List.take_append,List.take_of_length_le (by omega),show j*z+z - v1.length=j*z by omega]
  have e2:(v1++v2).drop (j*z+z)=v2.drop (j*z):=by
   rw [List.drop_append,List.drop_eq_nil_of_le (by omega),show j*z+z - v1.length=j*z by omega];rfl
  rw [e1,e2]
  exact ⟨⟨v1,v2.take (j*z),rfl,h1,k1⟩,k2⟩
theorem part_run {P:Program} {t:TypeId} {d:TypeDesc} (hu:P.underlying t=some d) {inf:TypeInfo} (hi:P.info? t=some inf) (vs:List Value) (off:Nat) (w:World) :
  (part t vs.toArray off).run P w=(match d with
   | .struct _=>.ok (.agg ((vs.drop off).take inf.size).toArray) w
   | .array _ _=>.ok (.agg ((vs.drop off).take inf.size).toArray) w
   | _=>match vs[off]? with
    | some v=>.ok v w
    | none=>(part t vs.toArray off).run P w):=by
 cases d with
 | struct fs=>simp [part,isAgg,run_underlying hu,Sem.run_bind,sizeOf,typeInfo,hi,List.extract_eq_take_drop]
 | array n e=>simp [part,isAgg,run_underlying hu,Sem.run_bind,sizeOf,typeInfo,hi,List.extract_eq_take_drop]
 | _=>
  dsimp only
  cases hv:vs[off]? with
  | none=>rfl
  | some v=>simp [part,isAgg,run_underlying hu,Sem.run_bind,hv]
theorem dfield_run {P:Program} {ty:TypeId} {i:Nat} {fs:List Fact} {cs:List TD} {vs:List Value} {y:TD} (h:dfield P ty i cs=some y) (hr:RelVs fs cs vs):∃v,(∀w,(do pure (Next.value (← Instr.field ty (.agg vs.toArray) i)):Sem Next).run P w=.ok (.value v) w)∧RelV fs y v:=by
 unfold dfield at h
 split at h
 ·rename_i fds hu
  split at h
  ·rename_i f hf
   have sub:∀(inf:TypeInfo),(dsub cs f.offset inf.size).length=inf.size→RelV fs (.g (dsub cs f.offset inf.size)) (.agg ((vs.drop f.offset).take inf.size).toArray):=fun inf _=>⟨_,rfl,(hr.drop f.offset).take inf.size⟩
   split at h
   ·rename_i inf e1 e2
    cases hq:(dsub cs f.offset inf.size).length==inf.size with
    | false=>rw [hq] at h;cases h
    | true=>
     rw [hq] at h
     cases h
     refine ⟨_,fun w=>?_,sub inf (eq_of_beq hq)⟩
     have:=part_run e1 e2 vs f.offset w
     simp [Instr.field,run_underlying hu,Sem.run_bind,hf,asAgg,this]
   ·rename_i inf e1 e2
    cases hq:(dsub cs f.offset inf.size).length==inf.size with
    | false=>rw [hq] at h;cases h
    | true=>
     rw [hq] at h
     cases h
     refine ⟨_,fun w=>?_,sub inf (eq_of_beq hq)⟩
     have:=part_run e1 e2 vs f.offset w
     simp [Instr.field,run_underlying hu,Sem.run_bind,hf,asAgg,this]
   ·rename_i d inf n1 n2 e1 e2
    obtain ⟨v,hv,hrv⟩:=relVs_at hr h
    refine ⟨v,fun w=>?_,hrv⟩
    have:=part_run e1 e2 vs f.offset w
    have hp:(part f.type vs.toArray f.offset).run P w=.ok v w:=by
     rw [this]
     cases d with
     | struct fs=>exact absurd rfl (n1 fs)
     | array n e=>exact absurd rfl (n2 n e)
     | _=>simp only [hv]
    simp [Instr.field,run_underlying hu,Sem.run_bind,hf,asAgg,hp]
   ·cases h
  ·cases h
 ·cases h
theorem dfunc_rel {fs:List Fact} {x:TD} {t:T} {g:FuncId} (h:dfunc x=some g) (k:RelT fs x t):∃first caps,t=.v (.func (.func g) first caps)∧first.size=0∧caps.size=0:=by
 unfold dfunc at h
 split at h
 ·rename_i g' first caps
  cases hq:(first.size==0&&caps.size==0) with
  | false=>rw [hq] at h;cases h
  | true=>
   rw [hq] at h
   cases h
   simp only [Bool.and_eq_true,beq_iff_eq] at hq
   exact ⟨first,caps,k,hq.1,hq.2⟩
 ·cases h
theorem dstep0_sound {E':Env} (hD:D.Oks E P B E') (hB:∀w,Below W.heap.size W w→B w) (hOb:∀g,W.heap.size≤g→Ob g) {o:Oper} {st:Bool} {fs fs0:List Fact} {md0 md:MD} {m0 m:M} {td:List TD} {t:List T} {kd:DK} {k:M→List T→T→Tree}
  (h0:RM Ob fs0 md0 m0) (hsub:∀φ∈fs0,φ∈fs) (hst:st=true→fs0=fs) (hm:RM Ob fs md m) (ht:RTs fs td t) (h:dstep0 P E' D o st md0 md td kd) (K:∀fs' md' td' xd m' t' x,(∀φ∈fs,φ∈fs')→(dstillC E' D o td=true→fs'=fs)→RM Ob fs' md' m'→RTs fs' td' t'→RelT fs' xd x→kd md' td' xd→(k m' t' x).wpD P W none Q ds):(step0 E' o m0 m t k).wpD P W none Q ds:=by
 have K1:∀xd x,RelT fs xd x→kd md td xd→(k m t x).wpD P W none Q ds:=fun xd x hx hk=>K fs md td xd m t x (fun _ h=>h) (fun _=>rfl) hm ht hx hk
 unfold dstep0 at h
 cases ho:o.op with
 | move x=>rw [ho] at h;simp only [step0,ho];exact K1 _ _ (ht.ev x) h
 | assign x=>rw [ho] at h;simp only [step0,ho];exact K1 _ _ (ht.ev x) h
 | pick c a b=>
  rw [ho] at h
  simp only [step0,ho]
  simp only at h
  have hc:=ht.ev c
  cases hcd:dev td c with
  | v u=>
   rw [hcd] at h hc
   have hc:ev t c=.v u:=hc
   rw [hc]
   cases u with
   | bool b'=>exact dbr_wp h (K1 _ _ (ht.ev a)) (K1 _ _ (ht.ev b))
   | _=>exact h.elim
  | _=>rw [hcd] at h;exact h.elim
 | alloc e=>
  rw [ho] at h
  simp only [step0,ho]
  simp only at h
  cases hz:lk E'.zero e with
  | none=>rw [hz] at h;exact h.elim
  | some cs=>
   cases hs:lk D.sy e with
   | none=>rw [hz,hs] at h;exact h.elim
   | some s=>
    rw [hz,hs] at h
    have hcs:=hD.ok.zero e s cs hs (by rw [← hD.zero];exact hz)
    subst hcs
    have h1:=hm.alloc (cs:=dzero s) (ts:=(zvals s).map T.v) e (rts_vals _)
    exact K _ _ _ (.p md.own.length 0) _ _ _ (fun _ h=>h) (fun _=>rfl) h1 ht (by rw [hm.ol];exact rfl) h
 | box e x=>
  rw [ho] at h
  simp only [step0,ho]
  simp only at h
  cases hc:dcells (dev td x) with
  | none=>rw [hc] at h;exact h.elim
  | some xs=>
   rw [hc] at h
   simp only at h
   obtain ⟨us,hu,hur⟩:=dcells_rel (ht.ev x) hc
   rw [hu]
   simp only
   cases hq:dones xs with
   | false=>rw [hq] at h;exact h.elim
   | true=>
    rw [hq] at h
    rw [dones_rel hur hq]
    exact K _ _ _ (.p md.own.length 0) _ _ _ (fun _ h=>h) (fun _=>rfl) (hm.alloc e hur) ht (by rw [hm.ol];exact rfl) h
 | load ty a=>rw [ho] at h;exact dload_sound hD.eok ho h0 hsub hst hm ht h K1
 | store ty a x=>rw [ho] at h;exact dstore_sound hOb hD.keep ho hm ht h (fun fs' md td xd m t x hs=>K fs' md td xd m t x hs (by simp [dstillC,dstill,ho]))
 | fieldAddr s x f=>
  rw [ho] at h
  simp only [step0,ho]
  simp only at h
  have hx:=ht.ev x
  cases hl:lk E'.off (s,f) with
  | none=>rw [hl] at h;exact h.elim
  | some d=>
   rw [hl] at h
   simp only at h ⊢
   cases hxd:dev td x with
   | p b o=>rw [hxd] at h hx;have hx:ev t x=.p b o:=hx;rw [hx];exact K1 (.p b (o+d)) _ rfl h
   | q i sz j o=>rw [hxd] at h hx;have hx:ev t x=.q i (j*sz+o):=hx;rw [hx];exact K1 (.q i sz j (o+d)) _ (congrArg (T.q i) (by omega)) h
   | e s L j o=>
    rw [hxd] at h hx
    obtain ⟨A,xs,ad,e1,e2,e3,e4,e5,e6⟩:=hx
    rw [e1]
    refine K1 (.e s L j (o+d)) _ ⟨A,xs,_,rfl,e2,e3,?_,?_,fun h0=>?_⟩ h
    ·unfold Addr.add;split
     ·exact e4
     ·exact e4
    ·unfold Addr.add;split
     ·rename_i hd0;rw [e5,hd0];omega
     ·show ad.off+d=_;rw [e5];omega
    ·unfold Addr.add;split
     ·exact e6 h0
     ·rfl
   | _=>rw [hxd] at h;exact h.elim
 | indexAddr ty x i=>rw [ho] at h;exact dindexAddr_sound ho hm ht h K1
 | index ty x i=>
  rw [ho] at h
  simp only [step0,ho]
  simp only at h
  have hx:=dnv_rel (ht.ev x)
  have hi:=ht.ev i
  rcases dcase hx with ⟨u,h1,h2⟩ | hn
  ·rcases dcase hi with ⟨v,h3,h4⟩ | hn
   ·rw [h1,h3] at h
    rw [h2,h4]
    exact dprim_wp h fun v hv=>K1 (.v v) _ rfl hv
   ·rw [h1] at h
    cases hid:dev td i <;> rw [hid] at h <;> first | exact absurd hid (hn _) | exact h.elim
  ·cases hxd:dnv (dev td x) <;> rw [hxd] at h <;> first | exact absurd hxd (hn _) | exact h.elim
 | binOp op ty x y z=>
  rw [ho] at h
  simp only [step0,ho]
  simp only at h
  have hx:=dnv_rel (ht.ev x)
  have hy:=dnv_rel (ht.ev y)
  rcases dcase hx with ⟨u,h1,h2⟩ | hn
  ·rcases dcase hy with ⟨v,h3,h4⟩ | hn
   ·rw [h1,h3] at h
    rw [h2,h4]
    split at h
    ·rename_i a b e1 e2
     cases e1
     cases e2
     simp only
     cases hb:binOk op with
     | true=>rw [hb] at h;exact dbinT_wp h fun v hv=>K1 (.v v) _ rfl hv
     | false=>rw [hb] at h;exact dprim_wp h fun v hv=>K1 (.v v) _ rfl hv
    ·rename_i a b hne e1 e2
     cases e1
     cases e2
     split
     ·rename_i a' b' e1 e2
      cases e1
      cases e2
      exact (hne _ _ rfl rfl).elim
     ·rename_i a' b' hne2 e1 e2
      cases e1
      cases e2
      exact dprim_wp h fun v hv=>K1 (.v v) _ rfl hv
     ·rename_i hne2 hne3
      exact (hne3 _ _ rfl rfl).elim
    ·exact h.elim
   ·rw [h1] at h
    split at h
    ·rename_i e1 e2;exact absurd e2 (hn _)
    ·rename_i e1 e2;exact absurd e2 (hn _)
    ·exact h.elim
  ·split at h
   ·rename_i e1 e2;exact absurd e1 (hn _)
   ·rename_i e1 e2;exact absurd e1 (hn _)
   ·exact h.elim
 | unOp op ty x=>
  rw [ho] at h
  simp only [step0,ho]
  have hx:=ht.ev x
  cases op with
  | not=>
   simp only at h ⊢
   cases hxd:dev td x with
   | v u=>
    rw [hxd] at h hx
    have hx:ev t x=.v u:=hx
    rw [hx]
    cases u with
    | bool b=>exact K1 (.v (.bool !b)) _ rfl h
    | _=>exact h.elim
   | _=>rw [hxd] at h;exact h.elim
  | neg=>
   simp only at h ⊢
   cases hxd:dev td x with
   | v u=>
    rw [hxd] at h hx
    have hx:ev t x=.v u:=hx
    rw [hx]
    cases u with
    | int kk a=>
     cases kk with
     | i64=>exact ⟨h.1,K1 (.v (.int .i64 (-a))) _ rfl h.2⟩
     | _=>exact h.elim
    | _=>exact h.elim
   | _=>rw [hxd] at h;exact h.elim
  | _=>exact h.elim
 | convert src dst x=>
  rw [ho] at h
  simp only [step0,ho]
  simp only at h
  have hx:=ht.ev x
  have key:∀y:TD,dev td x=y→(∃u,ev t x=.v u)→(match lk D.idc (src,dst),dstep0.dvalQ y with | some _,true=>kd md td y | _,_=>False)→(match ev t x with
    | .v u=>Tree.prim (do pure (.value (← convert src dst u))) (fun v=>k m t (.v v))
    | _=>.bad "convert").wpD P W none Q ds:=fun y hy ⟨u,hu⟩ h=>by
   cases hl:lk D.idc (src,dst) with
   | none=>rw [hl] at h;exact h.elim
   | some z=>
    rw [hl] at h
    cases hq:dstep0.dvalQ y with
    | false=>rw [hq] at h;exact h.elim
    | true=>
     rw [hq] at h
     rw [hu] at hx ⊢
     refine ⟨u,fun w=>?_,K1 y (.v u) (by rw [← hy];exact hx) h⟩
     have:=hD.ok.idc src dst z hl u w
     simp [Sem.run_bind,this]
  cases hxd:dev td x with
  | v u=>
   rw [hxd] at h hx
   have hx:ev t x=.v u:=hx
   rw [hx]
   exact dprim_wp h fun v hv=>K1 (.v v) _ rfl hv
  | any=>rw [hxd] at h;exact h.elim
  | g cs=>rw [hxd] at h;exact key (.g cs) hxd (by have hx2:=hx;rw [hxd] at hx2;obtain ⟨y,e,_⟩:=hx2;exact ⟨y,e⟩) h
  | d s L=>rw [hxd] at h;exact key (.d s L) hxd (by have hx2:=hx;rw [hxd] at hx2;obtain ⟨y,e,_⟩:=hx2;exact ⟨y,e⟩) h
  | _=>rw [hxd] at h;simp only [dstep0.dvalQ] at h;split at h <;> first | exact h.elim | (rename_i e _;cases e) | (rename_i _ e;cases e)
 | extract x i=>
  rw [ho] at h
  simp only [step0,ho]
  simp only at h
  have hx:=ht.ev x
  cases hxd:dev td x with
  | u cs=>
   rw [hxd] at h hx
   simp only at h
   obtain ⟨y,e1,vs,e2,e3⟩:=hx
   rw [e1,e2]
   simp only
   cases hc:cs[i]? with
   | none=>rw [hc] at h;exact h.elim
   | some c=>
    rw [hc] at h
    obtain ⟨v,hv,hr⟩:=relVs_at e3 hc
    rw [hv]
    exact K1 c _ (relT_v hr) h
  | v u=>
   rw [hxd] at h hx
   have hx:ev t x=.v u:=hx
   rw [hx]
   cases u with
   | tuple vs=>
    simp only at h ⊢
    cases hc:vs.toList[i]? with
    | none=>rw [hc] at h;exact h.elim
    | some c=>rw [hc] at h;exact K1 (.v c) _ rfl h
   | _=>exact h.elim
  | _=>rw [hxd] at h;exact h.elim
 | build ty parts=>
  rw [ho] at h
  simp only [step0,ho]
  simp only at h
  cases hl:lk E'.str ty with
  | none=>rw [hl] at h;exact h.elim
  | some q=>
   obtain ⟨cs,places⟩:=q
   cases hs:lk D.sy ty with
   | none=>rw [hl,hs] at h;exact h.elim
   | some s=>
    rw [hl,hs] at h
    simp only at h ⊢
    have hcs:=hD.ok.str ty s cs places hs (by rw [← hD.str];exact hl)
    subst hcs
    cases hf:dfill places (dzero s) (parts.toList.map fun q=>(q.1,dev td q.2)) with
    | none=>rw [hf] at h;exact h.elim
    | some cs'=>
     rw [hf] at h
     simp only at h
     obtain ⟨ts',h1,h2⟩:=dfill_rel (ts:=(zvals s).map T.v) (rts_vals _) (dparts_rel ht parts.toList) hf
     rw [h1]
     simp only
     cases hq:dvals cs' with
     | false=>rw [hq] at h;exact h.elim
     | true=>
      rw [hq] at h
      obtain ⟨vs,e1,e2,e3⟩:=dvals_rel h2 hq
      rw [e1]
      exact K1 (.g cs') _ ⟨_,rfl,vs,rfl,e2⟩ h
 | buildSlice ty n parts=>
  rw [ho] at h
  simp only [step0,ho]
  simp only at h
  cases hr:lk E'.row ty with
  | none=>rw [hr] at h;exact h.elim
  | some q=>
   obtain ⟨e,size,bytes⟩:=q
   rw [hr] at h
   simp only at h ⊢
   cases hs:lk D.sy e with
   | none=>rw [hs] at h;exact h.elim
   | some s=>
    rw [hs] at h
    simp only at h
    cases hn:n==0 with
    | true=>
     rw [hn] at h
     simp only [cond_true] at h ⊢
     cases hq:(E'.quiet||parts.size != 0) with
     | true=>rw [hq] at h;exact h.elim
     | false=>
      rw [hq] at h
      cases hz:s.size==size with
      | false=>rw [hz] at h;exact h.elim
      | true=>
       rw [hz] at h
       simp only [cond_false]
       exact K _ _ _ (.r md.rows.length) _ _ _ (fun _ h=>h) (fun _=>rfl) (hm.addRow (r:=⟨e,size,s,[]⟩) (xs:=[]) (eq_of_beq hz).symm rfl) ht (by rw [hm.rl];exact rfl) h
    | false=>
     rw [hn] at h
     simp only [cond_false] at h ⊢
     cases hz:lk E'.zero e with
     | none=>rw [hz] at h;exact h.elim
     | some z=>
      rw [hz] at h
      have hcs:=hD.ok.zero e s z hs (by rw [← hD.zero];exact hz)
      subst hcs
      simp only at h ⊢
      cases hf:dfill (rowPlaces n size 0) (reps n (dzero s)) (parts.toList.map fun q=>(q.1,dev td q.2)) with
      | none=>rw [hf] at h;exact h.elim
      | some cs'=>
       rw [hf] at h
       simp only at h
       obtain ⟨ts',h1,h2⟩:=dfill_rel (ts:=reps n ((zvals s).map T.v)) (dreps_rel (rts_vals _) n) (dparts_rel ht parts.toList) hf
       rw [h1]
       simp only
       cases hq:(dones cs'&&s.size==size&&Nat.ble (n*size) 1000) with
       | false=>rw [hq] at h;exact h.elim
       | true=>
        rw [hq] at h
        simp only [Bool.and_eq_true] at hq
        have hzl:((zvals s).map T.v).length=s.size:=by rw [List.length_map];exact LieV.len (s:=s) (zvals_lie (R:=fun _ _=>True) trivial)
        rw [dones_rel h2 hq.1.1,hzl,hq.1.2,hq.2]
        simp only [Bool.and_self,cond_true]
        exact K _ _ _ (.s md.own.length n) _ _ _ (fun _ h=>h) (fun _=>rfl) (hm.alloc e h2) ht (by rw [hm.ol];exact rfl) h
 | field ty x i=>
  rw [ho] at h
  simp only [step0,ho]
  simp only at h
  have hx:=ht.ev x
  cases hxd:dev td x with
  | g cs=>
   rw [hxd] at h hx
   obtain ⟨y,e,vs,rfl,hr⟩:=hx
   rw [e]
   simp only at h ⊢
   cases hf:dfield P ty i cs with
   | none=>rw [hf] at h;exact h.elim
   | some y=>
    rw [hf] at h
    obtain ⟨v,h1,h2⟩:=dfield_run hf hr
    exact ⟨v,h1,K1 y (.v v) (relT_v h2) h⟩
  | v u=>
   rw [hxd] at h hx
   have hx:ev t x=.v u:=hx
   rw [hx]
   exact dprim_wp h fun v hv=>K1 (.v v) _ rfl hv
  | _=>rw [hxd] at h;exact h.elim
 | makeSlice ty l c=>
  rw [ho] at h
  simp only [step0,ho]
  simp only at h
  cases hr:lk E'.row ty with
  | none=>rw [hr] at h;exact h.elim
  | some q=>
   obtain ⟨e,size,bytes⟩:=q
   rw [hr] at h
   have hl:=ht.ev l
   have hc:=ht.ev c
   split at h
   ·rename_i e' z' b' j c' e1 e2 e3
    cases e1
    rw [e2] at hl
    rw [e3] at hc
    have hl:ev t l=.v (.int .i64 j):=hl
    have hc:ev t c=.v (.int .i64 c'):=hc
    rw [hl,hc]
    simp only
    split at h
    ·rename_i cs s f1 f2
     cases hq:(s.size==size&&(!E'.quiet||E'.made)) with
     | false=>rw [hq] at h;exact h.elim
     | true=>
      rw [hq] at h
      obtain ⟨h1,h⟩:=h
      simp only [Bool.and_eq_true,beq_iff_eq] at hq
      have hcs:=hD.ok.zero e s cs f2 (by rw [← hD.zero];exact f1)
      subst hcs
      have hz:(lk E'.zero e).bind valsOf=some (zvals s):=by rw [f1];exact valsOf_map _
      rw [hz]
      have hlie:LieV (fun _ _=>True) s (Sh.z s) (zvals s):=zvals_lie trivial
      have hlen:(zvals s).length=size:=by rw [LieV.len (s:=s) hlie];exact hq.1
      simp only [hlen,beq_self_eq_true,ones_map (lie_one (s:=s) hlie),hq.2,Bool.and_self,cond_true]
      refine ⟨h1,?_⟩
      have:=hm.addRow (r:=⟨e,size,s,List.replicate j.toNat (Sh.z s)⟩) (xs:=reps j.toNat (zvals s)) hq.1.symm (lie_reps (.inl rfl) _)
      rw [List.length_replicate] at this
      exact K _ _ _ (.r md.rows.length) _ _ _ (fun _ h=>h) (fun _=>rfl) this ht (by rw [hm.rl];exact rfl) h
    ·exact h.elim
   ·exact h.elim
 | slice ty x lo hi mx=>
  rw [ho] at h
  cases mx with
  | some _=>exact h.elim
  | none=>
  simp only [step0,ho]
  simp only at h
  have hx:=ht.ev x
  split at h
  ·rename_i q e1 size b1 s L hrow hd
   rw [hd] at hx
   obtain ⟨y,hy,a,n,c,xs,e2,hs,hn,hlie,hR⟩:=hx
   obtain rfl:y=.slice a n c:=by simpa using e2
   rw [hy]
   have hn:n=L.length:=hn
   obtain ⟨hu,inf,z,hinf,_,hisz,_,_,h0s⟩:=hD.eok.row ty _ _ _ hrow
   have hN:=fun (jn:Nat) (hl:LieN (LieV (inF fs) s) L xs)=>LieN.dropTake (fun x vs=>LieV.len (s:=s)) jn hl
   split at h
   ·rename_i hh
    have hb:=ht.ev hh
    split at h
    ·rename_i j e3
     rw [e3] at hb
     have hb:ev t hh=.v (.int .i64 j):=hb
     simp only [hb]
     obtain ⟨hsz,⟨h1,h2⟩,h⟩:=h
     have hsz:size=s.size:=by
      cases hq:size==s.size with
      | true=>exact eq_of_beq hq
      | false=>rw [hq] at hsz;exact hsz.elim
     obtain ⟨jn,rfl⟩:∃jn:Nat,j=jn:=⟨j.toNat,by omega⟩
     refine ⟨_,fun w=>slice_to_run hu hinf a n c jn w (by have:=hs.1;omega),K1 (.d s (L.take jn)) _ ⟨_,rfl,(if c=0 then a else a.map fun x=>x.add (0*inf.size)),jn,c,xs.take (jn*s.size),rfl,?_,?_,(hN jn hlie).1,?_⟩ h⟩
     ·refine ⟨by have:=hs.1;omega,hs.2.1,fun h9=>?_⟩
      split at h9
      ·have:=hs.2.2 h9;have:=hs.1;omega
      ·cases a with
       | none=>have:=hs.2.2 rfl;have:=hs.1;omega
       | some A=>cases h9
     ·show jn=(L.take jn).length
      rw [List.length_take];omega
     ·by_cases hj0:jn=0
      ·exact .inl (if_pos hj0)
      ·rw [show pt _ jn=_ from if_neg hj0,if_neg (by have:=hs.1;omega)]
       have hn0:n≠0:=by omega
       rw [show pt a n=a from if_neg hn0] at hR
       cases a with
       | none=>exact .inl rfl
       | some A=>
        rcases hR with hR | ⟨φ,g1,g2,g3⟩
        ·cases hR
        ·refine .inr ⟨φ,g1,?_,fun o ho=>?_⟩
         ·rw [g2];simp [rowF,Addr.add]
         ·have:=g3 o ho
          intro ad had
          simp [Addr.add] at had
          subst had
          obtain ⟨k1,cur,ee,fr,k2,k3⟩:=this A rfl
          refine ⟨k1,cur,ee,fr,k2,fun jj u hu=>k3 jj u ?_⟩
          rw [List.getElem?_take] at hu
          split at hu
          ·exact hu
          ·cases hu
    ·exact h.elim
   ·rename_i ll
    have hb:=ht.ev ll
    split at h
    ·rename_i j e3
     rw [e3] at hb
     have hb:ev t ll=.v (.int .i64 j):=hb
     simp only [hb]
     obtain ⟨hsz,⟨h1,h2⟩,h⟩:=h
     have hsz:size=s.size:=by
      cases hq:size==s.size with
      | true=>exact eq_of_beq hq
      | false=>rw [hq] at hsz;exact hsz.elim
     obtain ⟨jn,rfl⟩:∃jn:Nat,j=jn:=⟨j.toNat,by omega⟩
     refine ⟨_,fun w=>slice_from_run hu hinf a n c jn w (by omega),K1 (.d s (L.drop jn)) _ ⟨_,rfl,(if c=jn then a else a.map fun x=>x.add (jn*inf.size)),n - jn,c - jn,xs.drop (jn*s.size),rfl,?_,?_,(hN jn hlie).2,?_⟩ h⟩
     ·refine ⟨by have:=hs.1;omega,by have:=hs.2.1;omega,fun h9=>?_⟩
      split at h9
      ·have:=hs.2.2 h9;have:=hs.1;omega
      ·cases a with
       | none=>have:=hs.2.2 rfl;have:=hs.1;omega
       | some A=>cases h9
     ·show n - jn=(L.drop jn).length
      rw [List.length_drop];omega
     ·by_cases hj0:n - jn=0
      ·exact .inl (if_pos hj0)
      ·rw [show pt _ (n - jn)=_ from if_neg hj0,if_neg (by have:=hs.1;omega)]
       have hn0:n≠0:=by omega
       rw [show pt a n=a from if_neg hn0] at hR
       cases a with
       | none=>exact .inl rfl
       | some A=>
        rcases hR with hR | ⟨φ,g1,g2,g3⟩
        ·cases hR
        ·refine .inr ⟨φ,g1,?_,fun o ho=>?_⟩
         ·rw [g2];simp only [rowF,Option.map_some];unfold Addr.add;split <;> rfl
         ·have:=g3 o ho
          intro ad had
          have had:=(Option.some.inj had).symm
          subst had
          obtain ⟨k1,cur,ee,fr,k2,k3⟩:=this A rfl
          refine ⟨?_,cur,ee,fr,k2,fun jj u hu=>?_⟩
          ·unfold Addr.add;split
           ·exact k1
           ·rfl
          ·rw [List.getElem?_drop] at hu
           have:=k3 _ u hu
           rw [← this]
           congr 1
           unfold Addr.add
           split
           ·rename_i h9;rw [hisz,hsz] at h9;show A.off+jj=A.off+(jn*s.size+jj);rw [h9,Nat.zero_add]
           ·simp only;rw [hisz,hsz];show A.off+jn*s.size+jj=A.off+(jn*s.size+jj);omega
    ·exact h.elim
   ·exact h.elim
  ·rename_i u hd
   rw [hd] at hx
   have hx:ev t x=.v u:=hx
   rw [hx]
   split at h
   ·rename_i hh
    have hb:=ht.ev hh
    split at h
    ·rename_i v e3
     rw [e3] at hb
     have hb:ev t hh=.v v:=hb
     simp only [hb]
     exact dprim_wp h fun v hv=>K1 (.v v) _ rfl hv
    ·exact h.elim
   ·rename_i ll
    have hb:=ht.ev ll
    split at h
    ·rename_i v e3
     rw [e3] at hb
     have hb:ev t ll=.v v:=hb
     simp only [hb]
     exact dprim_wp h fun v hv=>K1 (.v v) _ rfl hv
    ·exact h.elim
   ·exact h.elim
  ·exact h.elim
 | call c=>
  rw [ho] at h
  obtain ⟨callee,args,tys⟩:=c
  simp only at h
  have callV:∀f:Operand,(∀g,f≠.func g)→o.op=.call { callee:=.value f,args:=args,argTypes:=tys }→(match dfunc (dev td f) with
    | some g=>dcallT E' D true g (args.toList.map (dev td)) md td kd
    | none=>False)→((match ev t f with
    | .v (.func (.func g) first caps)=>bif first.size==0 then callT E' true g (args.toList.map (ev t)) (caps.toList.map .v) m t k else bif caps.size==0 then shareAll (args.toList.map (ev t)) m t (fun xs m t=>.call g (first.toList.map .v++xs) m (fun v fs=>k (m.learn fs) t (.v v))) else .bad "call: bound"
    | .fn g caps=>callT E' true g (args.toList.map (ev t)) (caps.map fun c=>.p c.1 c.2) m t k
    | _=>.bad "call" : Tree).wpD P W none Q ds→(step0 E' o m0 m t k).wpD P W none Q ds)→(step0 E' o m0 m t k).wpD P W none Q ds:=fun f hne hof hh fin=>by
   cases hfn:dfunc (dev td f) with
   | none=>rw [hfn] at hh;exact hh.elim
   | some g=>
    rw [hfn] at hh
    obtain ⟨first,caps,e1,e2,e3⟩:=dfunc_rel hfn (ht.ev f)
    refine fin ?_
    rw [e1]
    simp only [e2,beq_self_eq_true,cond_true]
    have e4:caps.toList.map T.v=[]:=by
     have:caps = #[]:=Array.eq_empty_of_size_eq_zero e3
     rw [this];rfl
    rw [e4]
    refine dcallT_sound hD.ok hB hOb (dargs_rel ht args.toList) hm ht hh fun fs' md td' xd m t x hs=>K fs' md td' xd m t x hs fun hs2=>?_
    cases f with
    | func g=>exact absurd rfl (hne g)
    | _=>simp [dstillC,dstill,hof] at hs2
  cases callee with
  | value f=>
   cases f with
   | func g=>
    simp only [step0,ho]
    cases hcf:dcallF E' D false g (args.toList.map (dev td)) with
    | true=>exact dcallT_soundF hD.ok hB hcf (dargs_rel ht args.toList) hm h K1
    | false=>exact dcallT_sound hD.ok hB hOb (dargs_rel ht args.toList) hm ht h (fun fs' md td xd m t x hs=>K fs' md td xd m t x hs (by simp [dstillC,dstill,ho,hcf]))
   | tmp j=>exact callV (.tmp j) (fun g e=>by cases e) ho h (by simp only [step0,ho];intro h;exact h)
   | const x=>exact callV (.const x) (fun g e=>by cases e) ho h (by simp only [step0,ho];intro h;exact h)
   | global q=>exact callV (.global q) (fun g e=>by cases e) ho h (by simp only [step0,ho];intro h;exact h)
  | invoke _ _=>exact h.elim
  | builtin b=>
   cases b with
   | len=>
    simp only [step0,ho]
    simp only at h
    cases ha:args.toList with
    | nil=>rw [ha] at h;exact h.elim
    | cons x l=>
     cases l with
     | cons _ _=>rw [ha] at h;exact h.elim
     | nil=>
      cases hty:tys.toList with
      | nil=>rw [ha,hty] at h;exact h.elim
      | cons ty l=>
       cases l with
       | cons _ _=>rw [ha,hty] at h;exact h.elim
       | nil=>
        rw [ha,hty] at h
        simp only at h ⊢
        cases hv:dlen E' ty (dev td x) md with
        | none=>rw [hv] at h;exact h.elim
        | some v=>
         rw [hv] at h
         rw [dlen_rel hm (ht.ev x) hv]
         exact K1 (.v v) _ rfl h
   | append=>
    simp only [step0,ho]
    simp only at h
    cases ha:args.toList with
    | nil=>rw [ha] at h;exact h.elim
    | cons x l=>
     cases l with
     | nil=>rw [ha] at h;exact h.elim
     | cons y l=>
      cases l with
      | cons _ _=>rw [ha] at h;exact h.elim
      | nil=>
       cases hty:tys.toList with
       | nil=>rw [ha,hty] at h;exact h.elim
       | cons ty l=>
        cases l with
        | nil=>rw [ha,hty] at h;exact h.elim
        | cons ty2 l=>
         cases l with
         | cons _ _=>rw [ha,hty] at h;exact h.elim
         | nil=>
          rw [ha,hty] at h
          simp only at h ⊢
          cases hr:lk E'.row ty with
          | none=>rw [hr] at h;exact h.elim
          | some q=>
           obtain ⟨e,size,bytes⟩:=q
           rw [hr] at h
           simp only at h ⊢
           cases hq:(ty==ty2 && !E'.quiet) with
           | false=>rw [hq] at h;exact h.elim
           | true=>
            rw [hq] at h
            simp only [Bool.and_eq_true,Bool.not_eq_true'] at hq
            rw [hq.1,hq.2]
            simp only [cond_true,cond_false]
            exact dappT_sound (ht.ev x) (ht.ev y) hm ht h (fun fs' md td xd m t x hs=>K fs' md td xd m t x hs (by simp [dstillC,dstill,ho]))
   | min=>
    simp only [step0,ho,primB]
    simp only at h
    cases hv:dvalsOf (args.toList.map (dev td)) with
    | none=>rw [hv] at h;exact h.elim
    | some vs=>
     rw [hv] at h
     rw [dvalsOf_rel (dargs_rel ht args.toList) hv]
     exact dprim_wp h fun v hv=>K1 (.v v) _ rfl hv
   | max=>
    simp only [step0,ho]
    simp only at h
    cases hv:dvalsOf (args.toList.map (dev td)) with
    | none=>rw [hv] at h;exact h.elim
    | some vs=>
     rw [hv] at h
     rw [dvalsOf_rel (dargs_rel ht args.toList) hv]
     exact dprim_wp h fun v hv=>K1 (.v v) _ rfl hv
   | _=>exact h.elim
 | _=>rw [ho] at h;exact h.elim
end
end Go.Proofs.YtdbjakibneeeiaaGreatDoor.Sx
namespace Go.Proofs.YtdbjakibneeeiaaGreatDoor.Sx
open Go.RowKit
variable {Ob : Nat → Prop}
def disA (x:TD):Bool:=match x with | .any=>true | _=>false
def disRS (x:TD):Bool:=match x with | .r _=>true | .s _ _=>true | _=>false
def dhl (f:TD→Bool) (l:List TD):Option (Option (List TD)):=bif l.any disA then none else bif l.any f then some (some l) else some none
def dheld (E:Env) (o:Oper) (md:MD) (td:List TD):Option (Option (List TD)):=
 match o.op with
 | .build _ parts=>dhl disRS (parts.toList.map fun q=>dev td q.2)
 | .buildSlice _ _ parts=>dhl disR (parts.toList.map fun q=>dev td q.2)
 | .load ty a=>match dev td a with
  | .p b off=>match (md.own[b]?).join,lk E.agg ty with
   | some (cs,_),some (some n)=>dhl disR (dsub cs off n)
   | some _,_=>some none
   | none,_=>none
  | .any=>none
  | _=>some none
 | .store _ a x=>match dev td a with
  | .q _ _ _ _=>match dev td x with
   | .r i=>some (some [.r i])
   | .any=>none
   | _=>some none
  | .p _ _=>some none
  | _=>none
 | .indexAddr _ x _=>match dev td x with
  | .s b n=>some (some [.s b n])
  | .any=>none
  | _=>some none
 | _=>some none
def dsafe (o:Oper):Bool:=match o.op with
 | .call c=>match c.callee with
  | .value _=>true
  | .builtin .len=>true
  | .builtin .append=>true
  | .builtin .min=>true
  | .builtin .max=>true
  | _=>false
 | .store _ _ _=>true
 | .move _=>true
 | .assign _=>true
 | .pick _ _ _=>true
 | .alloc _=>true
 | .box _ _=>true
 | .load _ _=>true
 | .fieldAddr _ _ _=>true
 | .indexAddr _ _ _=>true
 | .index _ _ _=>true
 | .binOp _ _ _ _ _=>true
 | .unOp _ _ _=>true
 | .convert _ _ _=>true
 | .extract _ _=>true
 | .build _ _=>true
 | .buildSlice _ _ _=>true
 | .makeSlice _ _ _=>true
 | .field _ _ _=>true
 | .slice _ _ _ _ _=>true
 | _=>false
def dcallV (o:Oper) (td:List TD):Bool:=match o.op with
 | .call c=>match c.callee with
  | .value (.func _)=>true
  | .value f=>(dfunc (dev td f)).isSome
  | _=>true
 | _=>true
def dstep (P:Program) (E:Env) (D:DE) (o:Oper) (md:MD) (td:List TD) (k:DK):Prop:=
 match dsafe o&&dcallV o td,dheld E o md td with
 | true,some none=>dstep0 P E D o true md md td k
 | true,some (some l)=>dshareAll D.sy l md td (fun _ md td=>dstep0 P E D o true md md td k)
 | _,_=>False
def dbadQ (E:Env) (o:Oper) (td:List TD):Bool:=match o.op with
 | .buildSlice _ _ parts=>E.soon||(match dhl disR (parts.toList.map fun q=>dev td q.2) with
  | some none=>false
  | _=>true)
 | _=>false
def dstepQ (P:Program) (E:Env) (D:DE) (o:Oper) (st:Bool) (md0 md:MD) (td:List TD) (k:DK):Prop:=bif dbadQ E o td then False else bif isMS E o then dstep0 P E D o false md0 md td (fun md td x=>dshareOne D.sy x md td (fun x md td=>k md td x)) else dstep0 P E D o st md0 md td k
def dokStore (X:Option (List Nat)) (n0:Nat) (o:Oper) (td:List TD):Bool:=
 match X with
 | none=>true
 | some X=>match o.op with
  | .store _ a _=>match dev td a with
   | .p b _=>X.contains b||Nat.ble n0 b
   | _=>false
  | _=>true
def dforceT {α:Type} (l:List TD) (k:List TD→α):α:=
 match l with
 | []=>k []
 | .any::l=>dforceT l (fun r=>k (.any::r))
 | .v x::l=>dforceT l (fun r=>k (.v x::r))
 | .d s L::l=>dforceT l (fun r=>k (.d s L::r))
 | .g cs::l=>dforceT l (fun r=>k (.g cs::r))
 | .u cs::l=>dforceT l (fun r=>k (.u cs::r))
 | .p b o::l=>forceN b (fun b=>forceN o (fun o=>dforceT l (fun r=>k (.p b o::r))))
 | .fn f c::l=>dforceT l (fun r=>k (.fn f c::r))
 | .s b n::l=>forceN b (fun b=>dforceT l (fun r=>k (.s b n::r)))
 | .r i::l=>forceN i (fun i=>dforceT l (fun r=>k (.r i::r)))
 | .q i z j o::l=>forceN i (fun i=>forceN o (fun o=>dforceT l (fun r=>k (.q i z j o::r))))
 | .e s L j o::l=>forceN o (fun o=>dforceT l (fun r=>k (.e s L j o::r)))
theorem dforceT_eq {α:Type}:∀(l:List TD) (k:List TD→α),dforceT l k=k l
 | [],k=>rfl
 | x::l,k=>by cases x <;> simp only [dforceT,dforceT_eq l,forceN_eq]
def dforceO {α:Type} (l:List (Option (List TD×TypeId))) (k:List (Option (List TD×TypeId))→α):α:=
 match l with
 | []=>k []
 | none::l=>dforceO l (fun r=>k (none::r))
 | some (cs,ty)::l=>dforceT cs (fun cs=>dforceO l (fun r=>k (some (cs,ty)::r)))
theorem dforceO_eq {α:Type}:∀(l:List (Option (List TD×TypeId))) (k:List (Option (List TD×TypeId))→α),dforceO l k=k l
 | [],k=>rfl
 | none::l,k=>by simp only [dforceO,dforceO_eq l]
 | some (cs,ty)::l,k=>by simp only [dforceO,dforceO_eq l,dforceT_eq]
def dforceR {α:Type} (l:List (Option RowD)) (k:List (Option RowD)→α):α:=
 match l with
 | []=>k []
 | none::l=>dforceR l (fun r=>k (none::r))
 | some ⟨e,z,s,L⟩::l=>dforceR l (fun r=>k (some ⟨e,z,s,L⟩::r))
theorem dforceR_eq {α:Type}:∀(l:List (Option RowD)) (k:List (Option RowD)→α),dforceR l k=k l
 | [],k=>rfl
 | none::l,k=>by simp only [dforceR,dforceR_eq l]
 | some ⟨e,z,s,L⟩::l,k=>by simp only [dforceR,dforceR_eq l]
def dforceM {α:Type} (m:MD) (k:MD→α):α:=match m with
 | ⟨own,rows⟩=>dforceO own (fun own=>dforceR rows (fun rows=>k ⟨own,rows⟩))
theorem dforceM_eq {α:Type} (m:MD) (k:MD→α):dforceM m k=k m:=by
 obtain ⟨own,rows⟩:=m
 simp only [dforceM,dforceO_eq,dforceR_eq]
def dgo (P:Program) (E:Env) (D:DE) (X:Option (List Nat)) (o:Oper) (st:Bool) (md0 md:MD) (td:List TD) (k:DK):Prop:=match X with
 | none=>dstep P E D o md td k
 | some _=>dstepQ P E D o st md0 md td k
def dops (P:Program) (E:Env) (D:DE) (X:Option (List Nat)) (all:List Oper):List Oper→Bool→MD→MD→List TD→DM→Prop
 | [],st,md0,md,td,k=>k md td
 | o::rest,st,md0,md,td,k=>
  match o.guard with
  | none=>bif dokStore X md0.own.length o td then dgo P E D X o st md0 md td (fun md' td' x=>dforceM md' (fun md'=>dforceT (dput td' o.dst x) (fun td2=>dops P E D X all rest (st&&dstillC E D o td) md0 md' td2 k))) else False
  | some (i,b)=>match (nth all i).bind (·.dst) with
   | none=>False
   | some j=>match dget td j with
    | .v (.bool c)=>dbr (c==b)
      (bif dokStore X md0.own.length o td then dgo P E D X o st md0 md (td.set j (.v (.bool b))) (fun md' td' x=>dforceM md' (fun md'=>dforceT (dput td' o.dst x) (fun td2=>dops P E D X all rest (st&&dstillC E D o (td.set j (.v (.bool b)))) md0 md' td2 k))) else False)
      (dforceT (dput (td.set j (.v (.bool !b))) o.dst (.v undef)) (fun td=>dops P E D X all rest st md0 md td k))
    | .v (.tuple _)=>dforceT (dput td o.dst (.v undef)) (fun td=>dops P E D X all rest st md0 md td k)
    | _=>False
section
variable {P : Program} {W : World} {Q : Ending → World → Prop} {ds : List Deferred} {B : World → Prop} {D : DE} {E : Env}
theorem any_rel {fs:List Fact} {f:TD→Bool} {g:T→Bool} (hfg:∀x y,RelT fs x y→disA x=false→f x=g y):∀{l:List TD} {r:List T},RTs fs l r→l.any disA=false→l.any f=r.any g
 | [],r,h,_=>by
  have:r=[]:=List.eq_nil_of_length_eq_zero (by simpa using h.1.symm)
  subst this;rfl
 | x::l,r,h,hA=>by
  obtain ⟨y,us,rfl,h1,h2⟩:=h.tail
  simp only [List.any_cons,Bool.or_eq_false_iff] at hA
  rw [List.any_cons,List.any_cons,hfg x y h1 hA.1,any_rel hfg h2 hA.2]
theorem disR_rel {fs:List Fact} (x:TD) (y:T) (h:RelT fs x y) (ha:disA x=false):disR x=isR y:=by
 cases x with
 | any=>cases ha
 | r i=>have h:y=_:=h;subst h;rfl
 | p b o=>have h:y=_:=h;subst h;rfl
 | fn f c=>have h:y=_:=h;subst h;rfl
 | s b n=>have h:y=_:=h;subst h;rfl
 | q i z j o=>have h:y=_:=h;subst h;rfl
 | v u=>have h:y=_:=h;subst h;rfl
 | e s L j o=>obtain ⟨_,_,_,e,_⟩:=h;subst e;rfl
 | d s L=>obtain ⟨_,e,_⟩:=h;subst e;rfl
 | g cs=>obtain ⟨_,e,_⟩:=h;subst e;rfl
 | u cs=>obtain ⟨_,e,_⟩:=h;subst e;rfl
theorem disRS_rel {fs:List Fact} (x:TD) (y:T) (h:RelT fs x y) (ha:disA x=false):disRS x=isRS y:=by
 cases x with
 | any=>cases ha
 | r i=>have h:y=_:=h;subst h;rfl
 | p b o=>have h:y=_:=h;subst h;rfl
 | fn f c=>have h:y=_:=h;subst h;rfl
 | s b n=>have h:y=_:=h;subst h;rfl
 | q i z j o=>have h:y=_:=h;subst h;rfl
 | v u=>have h:y=_:=h;subst h;rfl
 | e s L j o=>obtain ⟨_,_,_,e,_⟩:=h;subst e;rfl
 | d s L=>obtain ⟨_,e,_⟩:=h;subst e;rfl
 | g cs=>obtain ⟨_,e,_⟩:=h;subst e;rfl
 | u cs=>obtain ⟨_,e,_⟩:=h;subst e;rfl
theorem dhl_rel {fs:List Fact} {f:TD→Bool} {g:T→Bool} (hfg:∀x y,RelT fs x y→disA x=false→f x=g y) {l:List TD} {r:List T} (h:RTs fs l r) {z:Option (List TD)} (hz:dhl f l=some z):match z with
  | none=>(bif r.any g then some r else none)=none
  | some l'=>(bif r.any g then some r else none)=some r∧RTs fs l' r:=by
 unfold dhl at hz
 cases ha:l.any disA with
 | true=>rw [ha] at hz;cases hz
 | false=>
  rw [ha] at hz
  have e:=any_rel hfg h ha
  cases hf:l.any f with
  | true=>
   rw [hf] at hz
   cases hz
   rw [← e,hf]
   exact ⟨rfl,h⟩
  | false=>
   rw [hf] at hz
   cases hz
   rw [← e,hf]
   rfl
theorem parts_ev {fs:List Fact} {td:List TD} {t:List T} (ht:RTs fs td t) (l:List (Nat×Operand)):RTs fs (l.map fun q=>dev td q.2) (l.map fun q=>ev t q.2):=by
 induction l with
 | nil=>exact RTs.nil
 | cons x l ih=>exact RTs.cons (ht.ev x.2) ih
theorem dheld_rel {fs:List Fact} {md:MD} {m:M} {td:List TD} {t:List T} {o:Oper} (hm:RM Ob fs md m) (ht:RTs fs td t) {z:Option (List TD)} (hz:dheld E o md td=some z):match z with
  | none=>heldIn E o m t=none
  | some l=>∃r,heldIn E o m t=some r∧RTs fs l r:=by
 unfold dheld at hz
 unfold heldIn
 cases ho:o.op with
 | build ty parts=>
  rw [ho] at hz
  have:=dhl_rel disRS_rel (parts_ev ht parts.toList) hz
  cases z with
  | none=>exact this
  | some l=>exact ⟨_,this⟩
 | buildSlice ty n parts=>
  rw [ho] at hz
  have:=dhl_rel disR_rel (parts_ev ht parts.toList) hz
  cases z with
  | none=>exact this
  | some l=>exact ⟨_,this⟩
 | load ty a=>
  rw [ho] at hz
  simp only at hz ⊢
  have ha:=ht.ev a
  cases had:dev td a with
  | p b off=>
   rw [had] at hz ha
   have ha:ev t a=.p b off:=ha
   rw [ha]
   simp only at hz ⊢
   cases hb:(md.own[b]?).join with
   | none=>rw [hb] at hz;cases hag:lk E.agg ty <;> rw [hag] at hz <;> cases hz
   | some q=>
    obtain ⟨cs,e⟩:=q
    obtain ⟨ts,hts,hr⟩:=hm.own b cs e (Option.join_eq_some_iff.1 hb)
    have hc:m.cells b=some (ts,e):=by unfold M.cells;rw [hts];rfl
    rw [hb] at hz
    rw [hc]
    cases hag:lk E.agg ty with
    | none=>rw [hag] at hz;cases hz;rfl
    | some n=>
     rw [hag] at hz
     cases n with
     | none=>cases hz;rfl
     | some n=>
      have:=dhl_rel disR_rel ((hr.drop off).take n) hz
      cases z with
      | none=>exact this
      | some l=>exact ⟨_,this⟩
  | any=>rw [had] at hz;cases hz
  | r i=>rw [had] at hz ha;cases hz;have ha:ev t a=_:=ha;rw [ha]
  | fn f c=>rw [had] at hz ha;cases hz;have ha:ev t a=_:=ha;rw [ha]
  | s b n=>rw [had] at hz ha;cases hz;have ha:ev t a=_:=ha;rw [ha]
  | q i sz j o=>rw [had] at hz ha;cases hz;have ha:ev t a=_:=ha;rw [ha]
  | v u=>rw [had] at hz ha;cases hz;have ha:ev t a=_:=ha;rw [ha]
  | e s L j o=>rw [had] at hz ha;cases hz;obtain ⟨_,_,_,e,_⟩:=ha;rw [e]
  | d s L=>rw [had] at hz ha;cases hz;obtain ⟨_,e,_⟩:=ha;rw [e]
  | g cs=>rw [had] at hz ha;cases hz;obtain ⟨_,e,_⟩:=ha;rw [e]
  | u cs=>rw [had] at hz ha;cases hz;obtain ⟨_,e,_⟩:=ha;rw [e]
 | store ty a x=>
  rw [ho] at hz
  simp only at hz ⊢
  have ha:=ht.ev a
  have hx:=ht.ev x
  cases had:dev td a with
  | q i sz j o=>
   rw [had] at hz ha
   have ha:ev t a=_:=ha
   rw [ha]
   simp only at hz ⊢
   cases hxd:dev td x with
   | any=>rw [hxd] at hz;cases hz
   | r q=>rw [hxd] at hz hx;cases hz;have hx:ev t x=_:=hx;rw [hx];exact ⟨_,rfl,RTs.cons (c:=.r q) rfl RTs.nil⟩
   | _=>rw [hxd] at hz hx;cases hz;rw [← disR_rel _ _ hx rfl];rfl
  | p b o=>rw [had] at hz ha;cases hz;have ha:ev t a=_:=ha;rw [ha]
  | _=>rw [had] at hz;cases hz
 | indexAddr ty x i=>
  rw [ho] at hz
  simp only at hz ⊢
  have hx:=ht.ev x
  cases hxd:dev td x with
  | s b n=>rw [hxd] at hz hx;cases hz;have hx:ev t x=_:=hx;rw [hx];exact ⟨_,rfl,RTs.cons (c:=.s b n) rfl RTs.nil⟩
  | any=>rw [hxd] at hz;cases hz
  | p b o=>rw [hxd] at hz hx;cases hz;have hx:ev t x=_:=hx;rw [hx]
  | r i=>rw [hxd] at hz hx;cases hz;have hx:ev t x=_:=hx;rw [hx]
  | fn f c=>rw [hxd] at hz hx;cases hz;have hx:ev t x=_:=hx;rw [hx]
  | q i sz j o=>rw [hxd] at hz hx;cases hz;have hx:ev t x=_:=hx;rw [hx]
  | v u=>rw [hxd] at hz hx;cases hz;have hx:ev t x=_:=hx;rw [hx]
  | e s L j o=>rw [hxd] at hz hx;cases hz;obtain ⟨_,_,_,e,_⟩:=hx;rw [e]
  | d s L=>rw [hxd] at hz hx;cases hz;obtain ⟨_,e,_⟩:=hx;rw [e]
  | g cs=>rw [hxd] at hz hx;cases hz;obtain ⟨_,e,_⟩:=hx;rw [e]
  | u cs=>rw [hxd] at hz hx;cases hz;obtain ⟨_,e,_⟩:=hx;rw [e]
 | _=>rw [ho] at hz;cases hz;rfl
abbrev KS (Ob:Nat→Prop) (P:Program) (W:World) (Q:Ending→World→Prop) (ds:List Deferred) (E:Env) (D:DE) (o:Oper) (td0:List TD) (fs:List Fact) (kd:DK) (k:M→List T→T→Tree):Prop:=∀fs' md td xd m t x,(∀φ∈fs,φ∈fs')→(dstillC E D o td0=true→fs'=fs)→RM Ob fs' md m→RTs fs' td t→RelT fs' xd x→kd md td xd→(k m t x).wpD P W none Q ds
theorem opens_no {o:Oper} {t:List T} {td:List TD} {fs:List Fact} (ht:RTs fs td t) (h0:E.opens=[]) (hs:dsafe o=true) (hv:dcallV o td=true) (hst:∀ty a x,o.op=.store ty a x→(∃b off,dev td a=.p b off)∨∃i z j off,dev td a=.q i z j off):opens E t o=false:=by
 unfold opens
 unfold dsafe at hs
 cases ho:o.op with
 | call c=>
  rw [ho] at hs
  obtain ⟨callee,args,tys⟩:=c
  cases callee with
  | value f=>
   have go:∀f:Operand,(dfunc (dev td f)).isSome=true→(match ev t f with
     | .v (.func (.func _) first _)=>!(first.size==0)
     | _=>false)=false:=fun f h=>by
    obtain ⟨g,hg⟩:=Option.isSome_iff_exists.1 h
    obtain ⟨first,caps,e1,e2,e3⟩:=dfunc_rel hg (ht.ev f)
    rw [e1]
    simp [e2]
   unfold dcallV at hv
   rw [ho] at hv
   cases f with
   | func g=>simp only;rw [h0];rfl
   | tmp j=>exact go (.tmp j) hv
   | const x=>exact go (.const x) hv
   | global q=>exact go (.global q) hv
  | invoke _ _=>cases hs
  | builtin b=>cases b <;> first | rfl | (simp only;rw [h0];rfl) | cases hs
 | store ty a x=>
  have ha:=ht.ev a
  rcases hst ty a x ho with ⟨b,off,e⟩ | ⟨i,z,j,off,e⟩
  ·rw [e] at ha;have ha:ev t a=_:=ha;simp only [ha]
  ·rw [e] at ha;have ha:ev t a=_:=ha;simp only [ha]
 | makeSlice _ _ _=>simp only;rw [h0];rfl
 | _=>first | rfl | (rw [ho] at hs;cases hs)
theorem dstep_sound {E':Env} (hD:D.Oks E P B E') (hq:E'.quiet=false) (hop:E'.opens=[]) (hB:∀w,Below W.heap.size W w→B w) (hOb:∀g,W.heap.size≤g→Ob g) {o:Oper} {fs:List Fact} {md:MD} {m:M} {td:List TD} {t:List T} {kd:DK} {k:M→List T→T→Tree}
  (hm:RM Ob fs md m) (ht:RTs fs td t) (h:dstep P E' D o md td kd) (K:KO Ob P W Q ds fs kd k):(step E' o m m t k).wpD P W none Q ds:=by
 unfold dstep at h
 cases hsv:dsafe o&&dcallV o td with
 | false=>rw [hsv] at h;exact h.elim
 | true=>
  rw [hsv] at h
  obtain ⟨hs,hv⟩:=Bool.and_eq_true_iff.1 hsv
  cases hh:dheld E' o md td with
  | none=>rw [hh] at h;exact h.elim
  | some z=>
   rw [hh] at h
   have hst:∀ty a x,o.op=.store ty a x→(∃b off,dev td a=.p b off)∨∃i z j off,dev td a=.q i z j off:=fun ty a x ho=>by
    unfold dheld at hh
    rw [ho] at hh
    simp only at hh
    cases had:dev td a with
    | p b off=>exact .inl ⟨b,off,rfl⟩
    | q i z j off=>exact .inr ⟨i,z,j,off,rfl⟩
    | _=>rw [had] at hh;cases hh
   have hopn:=opens_no (E:=E') ht hop hs hv hst
   unfold step
   rw [hopn,hq,hD.keep,Bool.and_false]
   simp only [cond_true]
   have hr:=dheld_rel (E:=E') hm ht hh
   cases z with
   | none=>
    have hr:heldIn E' o m t=none:=hr
    rw [hr]
    exact dstep0_sound hD hB hOb hm (fun _ h=>h) (fun _=>rfl) hm ht h fun fs' md td xd m t x hs _=>K fs' md td xd m t x hs
   | some l=>
    obtain ⟨r,hr1,hr2⟩:=hr
    rw [hr1]
    simp only
    refine dshareAll_sound (fun g h=>h.elim (hOb g) (fun h=>by cases h)) l r hr2 hm ht h fun fs' cs' md' td' ts' m' t' hsub _ hm' ht' h'=>?_
    simp only [forceM_eq,forceT_eq]
    exact dstep0_sound hD hB hOb hm' (fun _ h=>h) (fun _=>rfl) hm' ht' h' fun fs2 md td xd m t x hs2 _=>K fs2 md td xd m t x fun φ hφ=>hs2 _ (hsub _ hφ)
theorem dstepQ_sound {E':Env} (hD:D.Oks E P B E') (hq:E'.quiet=true) (hb:E'.bare=false) (hB:∀w,Below W.heap.size W w→B w) (hOb:∀g,W.heap.size≤g→Ob g) {o:Oper} {st:Bool} {fs fs0:List Fact} {md0 md:MD} {m0 m:M} {td:List TD} {t:List T} {kd:DK} {k:M→List T→T→Tree}
  (h0:RM Ob fs0 md0 m0) (hsub:∀φ∈fs0,φ∈fs) (hst:st=true→fs0=fs) (hm:RM Ob fs md m) (ht:RTs fs td t) (h:dstepQ P E' D o st md0 md td kd) (K:KS Ob P W Q ds E' D o td fs kd k):(step E' o m0 m t k).wpD P W none Q ds:=by
 unfold dstepQ at h
 cases hbs:dbadQ E' o td with
 | true=>rw [hbs] at h;exact h.elim
 | false=>
  rw [hbs] at h
  have h:bif isMS E' o then dstep0 P E' D o false md0 md td (fun md td x=>dshareOne D.sy x md td (fun x md td=>kd md td x)) else dstep0 P E' D o st md0 md td kd:=h
  have h1:heldQ o t=none:=by
   unfold heldQ
   unfold dbadQ at hbs
   cases ho:o.op with
   | buildSlice ty n parts=>
    rw [ho] at hbs
    simp only [Bool.or_eq_false_iff] at hbs
    obtain ⟨_,hbs⟩:=hbs
    split at hbs
    ·rename_i hz;exact dhl_rel disR_rel (parts_ev ht parts.toList) hz
    ·cases hbs
   | _=>rfl
  have h2:(E'.soon&&isBS o)=false:=by
   unfold isBS
   unfold dbadQ at hbs
   cases ho:o.op with
   | buildSlice ty n parts=>
    rw [ho] at hbs
    simp only [Bool.or_eq_false_iff] at hbs
    rw [hbs.1];rfl
   | _=>exact Bool.and_false _
  cases hsm:isMS E' o with
  | false=>
   rw [hsm] at h
   have h3:soonQ E' o=false:=by unfold soonQ;rw [h2,hsm];rfl
   unfold step
   rw [hq,hb,hD.keep,h1,h3]
   simp only [cond_true,cond_false,Bool.false_and]
   exact dstep0_sound hD hB hOb h0 hsub hst hm ht h K
  | true=>
   rw [hsm] at h
   have h3:soonQ E' o=true:=by unfold soonQ;rw [hsm];exact Bool.or_true _
   have h4:dstillC E' D o td=false:=by
    unfold dstillC
    rw [hsm]
    unfold isMS at hsm
    cases ho:o.op with
    | makeSlice ty a b=>simp
    | _=>rw [ho] at hsm;cases hsm
   unfold step
   rw [hq,hb,hD.keep,h1,h3]
   simp only [cond_true,cond_false,Bool.false_and]
   have h:dstep0 P E' D o false md0 md td (fun md td x=>dshareOne D.sy x md td (fun x md td=>kd md td x)):=h
   refine dstep0_sound (st:=false) hD hB hOb h0 hsub (fun h=>Bool.noConfusion h) hm ht h fun fs' md td xd m t x hs _ hm ht hx hk=>?_
   refine dshareOne_sound (fun g h=>h.elim (hOb g) (fun h=>by cases h)) hx hm ht hk fun fs2 xd md td x m t hs2 hx hm ht hk=>?_
   simp only [forceM_eq,forceT_eq]
   exact K fs2 md td xd m t x (fun φ hφ=>hs2 _ (hs _ hφ)) (fun h=>by rw [h4] at h;cases h) hm ht hx hk
theorem okStore_rel {X:Option (List Nat)} {n0:Nat} {o:Oper} {fs:List Fact} {td:List TD} {t:List T} (ht:RTs fs td t) (h:dokStore X n0 o td=true):okStore X n0 o t=true:=by
 unfold dokStore at h
 unfold okStore
 cases X with
 | none=>rfl
 | some X=>
  cases ho:o.op with
  | store ty a x=>
   rw [ho] at h
   simp only at h ⊢
   have ha:=ht.ev a
   cases had:dev td a with
   | p b off=>rw [had] at h ha;have ha:ev t a=_:=ha;rw [ha];exact h
   | _=>rw [had] at h;cases h
  | _=>rfl
theorem ostill_tail {st:Bool} {o:Oper} {l:List Oper} (h:(st&&(o::l).all ostill)=true):(st&&l.all ostill)=true:=by
 rw [List.all_cons,Bool.and_eq_true,Bool.and_eq_true] at h
 rw [Bool.and_eq_true]
 exact ⟨h.1,h.2.2⟩
theorem dops_sound {E':Env} {X:Option (List Nat)} (hD:D.Oks E P B E') (hX:match X with | none=>E'.quiet=false∧E'.opens=[] | some _=>E'.quiet=true∧E'.bare=false) (hB:∀w,Below W.heap.size W w→B w) (hOb:∀g,W.heap.size≤g→Ob g) {all:List Oper} {kd:DM} {k:M→List T→Tree} :
  ∀(l:List Oper) {st:Bool} {fs fs0:List Fact} {md0 md:MD} {m0 m:M} {td:List TD} {t:List T},RM Ob fs0 md0 m0→(∀φ∈fs0,φ∈fs)→(X≠none→st=true→fs0=fs)→RM Ob fs md m→RTs fs td t→dops P E' D X all l st md0 md td kd→
  (∀fs' md td m t,(∀φ∈fs,φ∈fs')→(X≠none→(st&&l.all ostill)=true→fs0=fs')→RM Ob fs' md m→RTs fs' td t→kd md td→(k m t).wpD P W none Q ds)→(ops E' X all l m0 m t k).wpD P W none Q ds
 | [],st,fs,fs0,md0,md,m0,m,td,t,h0,hsub,hst,hm,ht,h,K=>K fs md td m t (fun _ h=>h) (fun h1 h=>hst h1 (by rw [Bool.and_eq_true] at h;exact h.1)) hm ht h
 | o::rest,st,fs,fs0,md0,md,m0,m,td,t,h0,hsub,hst,hm,ht,h,K=>by
  have step1:∀{td0:List TD} {t:List T},RTs fs td0 t→dgo P E' D X o st md0 md td0 (fun md' td' x=>dforceM md' (fun md'=>dforceT (dput td' o.dst x) (fun td=>dops P E' D X all rest (st&&dstillC E' D o td0) md0 md' td kd)))→
    (step E' o (loadsOf X m0 m) m t (fun m' t' x=>forceMO o m' (fun m'=>forceT (put t' o.dst x) (fun t=>ops E' X all rest m0 m' t k)))).wpD P W none Q ds:=fun {td0 t} ht h=>by
   have fin:∀fs' md td xd m t x,(∀φ∈fs,φ∈fs')→(X≠none→(st&&dstillC E' D o td0)=true→fs0=fs')→RM Ob fs' md m→RTs fs' td t→RelT fs' xd x→dforceM md (fun md'=>dforceT (dput td o.dst xd) (fun td=>dops P E' D X all rest (st&&dstillC E' D o td0) md0 md' td kd))→(forceMO o m (fun m'=>forceT (put t o.dst x) (fun t=>ops E' X all rest m0 m' t k))).wpD P W none Q ds:=fun fs' md td xd m t x hs hs2 hm ht hx hk=>by
    rw [dforceM_eq,dforceT_eq] at hk
    rw [forceMO_eq,forceT_eq]
    exact dops_sound hD hX hB hOb rest h0 (fun φ hφ=>hs _ (hsub _ hφ)) hs2 hm (ht.put o.dst hx) hk fun fs2 md td m t hs3 hq=>K fs2 md td m t (fun φ hφ=>hs3 _ (hs _ hφ)) fun h1 h=>hq h1 (by
     rw [List.all_cons,Bool.and_eq_true,Bool.and_eq_true] at h
     rw [Bool.and_eq_true,Bool.and_eq_true]
     exact ⟨⟨h.1,by unfold dstillC;rw [ostill_ms h.2.1];rfl⟩,h.2.2⟩)
   cases X with
   | none=>exact dstep_sound hD hX.1 hX.2 hB hOb hm ht h fun fs' md td xd m t x hs hm ht hx hk=>fin fs' md td xd m t x hs (fun h=>absurd rfl h) hm ht hx hk
   | some X=>
    exact dstepQ_sound hD hX.1 hX.2 hB hOb h0 hsub (hst (by simp)) hm ht h fun fs' md td xd m t x hs hs2 hm ht hx hk=>fin fs' md td xd m t x hs (fun h1 h=>by
     rw [Bool.and_eq_true] at h
     exact (hst h1 h.1).trans (hs2 h.2).symm) hm ht hx hk
  have okS:∀{td:List TD} {t:List T} {a:Prop} {b:Tree},RTs fs td t→(bif dokStore X md0.own.length o td then a else False)→(a→b.wpD P W none Q ds)→(bif okStore X m0.own.length o t then b else .bad "a store").wpD P W none Q ds:=fun {td t a b} ht h f=>by
   cases hk:dokStore X md0.own.length o td with
   | false=>rw [hk] at h;exact h.elim
   | true=>
    rw [hk] at h
    rw [h0.ol] at hk
    rw [okStore_rel ht hk]
    exact f h
  unfold dops at h
  unfold ops
  cases hg:o.guard with
  | none=>
   rw [hg] at h
   exact okS ht h (step1 ht)
  | some q=>
   obtain ⟨i,b⟩:=q
   rw [hg] at h
   simp only at h ⊢
   cases hj:(nth all i).bind (·.dst) with
   | none=>rw [hj] at h;exact h.elim
   | some j=>
    rw [hj] at h
    simp only at h ⊢
    have hx:=ht.get j
    cases hd:dget td j with
    | v u=>
     rw [hd] at h hx
     have hx:get t j=.v u:=hx
     rw [hx]
     cases u with
     | bool c=>
      simp only at h ⊢
      refine dbr_wp h (fun h=>?_) (fun h=>?_)
      ·exact okS ht h (step1 (ht.set j (x:=.v (.bool b)) (y:=.v (.bool b)) rfl))
      ·rw [dforceT_eq] at h
       rw [forceT_eq]
       exact dops_sound hD hX hB hOb rest h0 hsub hst hm ((ht.set j (x:=.v (.bool !b)) (y:=.v (.bool !b)) rfl).put o.dst (x:=.v undef) (y:=.v undef) rfl) h fun fs2 md td m t hs3 hq=>K fs2 md td m t hs3 fun h1 h=>hq h1 (ostill_tail h)
     | tuple us=>
      simp only at h ⊢
      rw [dforceT_eq] at h
      rw [forceT_eq]
      exact dops_sound hD hX hB hOb rest h0 hsub hst hm (ht.put o.dst (x:=.v undef) (y:=.v undef) rfl) h fun fs2 md td m t hs3 hq=>K fs2 md td m t hs3 fun h1 h=>hq h1 (ostill_tail h)
     | _=>exact h.elim
    | _=>rw [hd] at h;exact h.elim
end
end Go.Proofs.YtdbjakibneeeiaaGreatDoor.Sx
namespace Go.Proofs.YtdbjakibneeeiaaGreatDoor.Sx
open Go.RowKit
variable {Ob : Nat → Prop}
def dfits (a:Bool) (nb nr:Nat):List TD→Bool
 | []=>true
 | x::l=>(match x with
  | .any=>a
  | .p b _=>Nat.blt b nb
  | .fn _ c=>c.all fun q=>Nat.blt q.1 nb
  | .s b _=>Nat.blt b nb
  | .r i=>Nat.blt i nr
  | .q i _ _ _=>Nat.blt i nr
  | _=>true)&&dfits a nb nr l
def dfitsO (nb nr:Nat):List (Option (List TD×TypeId))→Bool
 | []=>true
 | some (cs,_)::l=>dfits false nb nr cs&&dfitsO nb nr l
 | none::l=>dfitsO nb nr l
def cutT:List TD→List T→List T
 | .any::l,_::r=>.any::cutT l r
 | _::l,t::r=>t::cutT l r
 | _,_=>[]
def cutO {α β:Type}:List (Option α)→List (Option β)→List (Option β)
 | none::l,_::r=>none::cutO l r
 | some _::l,t::r=>t::cutO l r
 | _,_=>[]
section
variable {fs : List Fact}
theorem cutT_rel:∀{r:List TD} {t:List T},RTs fs r t→RTs fs r (cutT r t)
 | [],t,k=>by
  have:t=[]:=List.eq_nil_of_length_eq_zero (by simpa using k.1.symm)
  subst this;exact k
 | x::r,t,k=>by
  obtain ⟨u,us,rfl,h1,h2⟩:=k.tail
  cases x with
  | any=>exact RTs.cons (c:=.any) (t:=.any) trivial (cutT_rel h2)
  | _=>exact RTs.cons h1 (cutT_rel h2)
theorem cutT_le:∀{r:List TD} {t:List T},RTs fs r t→LeT t (cutT r t)
 | [],t,k=>by
  have:t=[]:=List.eq_nil_of_length_eq_zero (by simpa using k.1.symm)
  subst this;trivial
 | x::r,t,k=>by
  obtain ⟨u,us,rfl,h1,h2⟩:=k.tail
  cases x with
  | any=>exact ⟨.inl rfl,cutT_le h2⟩
  | _=>exact ⟨.inr rfl,cutT_le h2⟩
theorem fit_rel {nb nr:Nat} {a:Bool} {x:TD} {t:T} (ha:x≠.any) (h:RelT fs x t) (hf:dfits a nb nr [x]=true):fits nb nr [t]=true:=by
 cases x with
 | any=>exact absurd rfl ha
 | r i=>have h:t=_:=h;subst h;exact hf
 | p b o=>have h:t=_:=h;subst h;exact hf
 | fn f c=>have h:t=_:=h;subst h;exact hf
 | s b n=>have h:t=_:=h;subst h;exact hf
 | q i z j o=>have h:t=_:=h;subst h;exact hf
 | v u=>have h:t=_:=h;subst h;rfl
 | e s L j o=>obtain ⟨_,_,_,e,_⟩:=h;subst e;rfl
 | d s L=>obtain ⟨_,e,_⟩:=h;subst e;rfl
 | g cs=>obtain ⟨_,e,_⟩:=h;subst e;rfl
 | u cs=>obtain ⟨_,e,_⟩:=h;subst e;rfl
theorem fits_cons {nb nr:Nat} {t:T} {l:List T}:fits nb nr (t::l)=(fits nb nr [t]&&fits nb nr l):=by
 simp only [fits,Bool.and_true]
theorem dfits_cons {a:Bool} {nb nr:Nat} {t:TD} {l:List TD}:dfits a nb nr (t::l)=(dfits a nb nr [t]&&dfits a nb nr l):=by
 simp only [dfits,Bool.and_true]
theorem fits_cut {nb nr:Nat}:∀{r:List TD} {t:List T},RTs fs r t→dfits true nb nr r=true→fits nb nr (cutT r t)=true
 | [],t,k,_=>by cases t <;> rfl
 | x::r,t,k,h=>by
  obtain ⟨u,us,rfl,h1,h2⟩:=k.tail
  rw [dfits_cons,Bool.and_eq_true] at h
  have ih:=fits_cut h2 h.2
  cases x with
  | any=>show fits nb nr (.any::cutT r us)=true;rw [fits_cons,ih];rfl
  | _=>
   show fits nb nr (u::cutT r us)=true
   rw [fits_cons,ih,fit_rel (by simp) h1 h.1];rfl
theorem fits_own {nb nr:Nat}:∀{r:List TD} {t:List T},RTs fs r t→dfits false nb nr r=true→fits nb nr t=true
 | [],t,k,_=>by
  have:t=[]:=List.eq_nil_of_length_eq_zero (by simpa using k.1.symm)
  subst this;rfl
 | x::r,t,k,h=>by
  obtain ⟨u,us,rfl,h1,h2⟩:=k.tail
  rw [dfits_cons,Bool.and_eq_true] at h
  have ih:=fits_own h2 h.2
  rw [fits_cons,ih,fit_rel (by rintro rfl;simp [dfits] at h) h1 h.1];rfl
theorem cutO_le {α β:Type}:∀{l:List (Option α)} {r:List (Option β)},l.length≤r.length→LeO r (cutO l r)
 | [],r,_=>by cases r <;> trivial
 | none::l,[],h=>by simp at h
 | some _::l,[],h=>by simp at h
 | none::l,x::r,h=>⟨.inl rfl,cutO_le (by simpa using h)⟩
 | some _::l,x::r,h=>⟨.inr rfl,cutO_le (by simpa using h)⟩
theorem cutO_len {α β:Type}:∀{l:List (Option α)} {r:List (Option β)},l.length≤r.length→l.length=(cutO l r).length
 | [],r,_=>by cases r <;> rfl
 | none::l,[],h=>by simp at h
 | some _::l,[],h=>by simp at h
 | none::l,x::r,h=>by simp only [cutO,List.length_cons];rw [cutO_len (l:=l) (r:=r) (by simpa using h)]
 | some _::l,x::r,h=>by simp only [cutO,List.length_cons];rw [cutO_len (l:=l) (r:=r) (by simpa using h)]
theorem cutO_get {α β:Type}:∀{l:List (Option α)} {r:List (Option β)} {i:Nat} {x:α},l.length≤r.length→l[i]?=some (some x)→(cutO l r)[i]?=r[i]?
 | [],r,i,x,_,h=>by simp at h
 | none::l,[],i,x,h,_=>by simp at h
 | some _::l,[],i,x,h,_=>by simp at h
 | none::l,y::r,i,x,hl,h=>by
  cases i with
  | zero=>simp at h
  | succ i=>exact cutO_get (l:=l) (r:=r) (i:=i) (x:=x) (by simpa using hl) (by simpa using h)
 | some _::l,y::r,i,x,hl,h=>by
  cases i with
  | zero=>rfl
  | succ i=>exact cutO_get (l:=l) (r:=r) (i:=i) (x:=x) (by simpa using hl) (by simpa using h)
theorem cutO_none {α β:Type}:∀{l:List (Option α)} {r:List (Option β)} {i:Nat} {x:β},(cutO l r)[i]?=some (some x)→∃y,l[i]?=some (some y)
 | [],r,i,x,h=>by cases r <;> simp [cutO] at h
 | none::l,[],i,x,h=>by simp [cutO] at h
 | some _::l,[],i,x,h=>by simp [cutO] at h
 | none::l,y::r,i,x,h=>by
  cases i with
  | zero=>simp [cutO] at h
  | succ i=>exact cutO_none (l:=l) (r:=r) (i:=i) (by simpa [cutO] using h)
 | some z::l,y::r,i,x,h=>by
  cases i with
  | zero=>exact ⟨z,rfl⟩
  | succ i=>exact cutO_none (l:=l) (r:=r) (i:=i) (by simpa [cutO] using h)
theorem dfitsO.get {nb nr:Nat}:∀{l:List (Option (List TD×TypeId))},dfitsO nb nr l=true→∀(b:Nat) cs ty,l[b]?=some (some (cs,ty))→dfits false nb nr cs=true
 | some (cs0,ty0)::l,h,b,cs,ty,hb=>by
  simp only [dfitsO,Bool.and_eq_true] at h
  cases b with
  | zero=>simp at hb;rw [← hb.1];exact h.1
  | succ b=>exact dfitsO.get h.2 b cs ty (by simpa using hb)
 | none::l,h,b,cs,ty,hb=>by
  cases b with
  | zero=>simp at hb
  | succ b=>exact dfitsO.get (l:=l) h b cs ty (by simpa using hb)
theorem fitsO_of {nb nr:Nat}:∀{l:List (Option (List T×TypeId))},(∀(b:Nat) cs ty,l[b]?=some (some (cs,ty))→fits nb nr cs=true)→fitsO nb nr l=true
 | [],_=>rfl
 | some (cs,ty)::l,h=>by
  simp only [fitsO,Bool.and_eq_true]
  exact ⟨h 0 cs ty rfl,fitsO_of fun b cs ty hb=>h (b+1) cs ty (by simpa using hb)⟩
 | none::l,h=>fitsO_of (l:=l) fun b cs ty hb=>h (b+1) cs ty (by simpa using hb)
end
end Go.Proofs.YtdbjakibneeeiaaGreatDoor.Sx
namespace Go.Proofs.YtdbjakibneeeiaaGreatDoor.Sx
open Go.RowKit
variable {Ob : Nat → Prop}
def MD.hide (m:MD):List Nat→MD
 | []=>m
 | b::l=>MD.hide { m with own:=m.own.set b none } l
def dalive (m:MD):List Nat→Bool
 | []=>true
 | b::l=>((m.own[b]?).join).isSome&&dalive m l
def dtailS (P:Program) (E:Env) (D:DE) (all:List Oper):Ord→MD→List TD→DM→Prop
 | .done,m,t,k=>k m t
 | .last i r,m,t,k=>dops P E D none all (picks all [i]) true m m t (fun m t=>dtailS P E D all r m t k)
 | _,_,_,_=>False
def dopsS (P:Program) (E:Env) (D:DE) (X:Option (List Nat)) (all:List Oper):Nat→Ord→Bool→MD→MD→List TD→DM→Prop
 | 0,_,_,_,_,_,_=>False
 | f+1,l,st,m0,m,t,k=>match l.spine.2 with
  | .done=>dops P E D X all (picks all l.spine.1) st m0 m t k
  | .last i r=>dops P E D X all (picks all l.spine.1) st m0 m t (fun m t=>dtailS P { E with quiet:=false } D all (.last i r) m t k)
  | .fork i r j s=>dops P E D X all (picks all l.spine.1) st m0 m t (fun m t=>dopsS P E D X all f (.one i r) (st&&(picks all l.spine.1).all ostill) m0 m t k∧dopsS P E D X all f (.one j s) (st&&(picks all l.spine.1).all ostill) m0 m t k)
  | .fork3 i r j s h u=>dops P E D X all (picks all l.spine.1) st m0 m t (fun m t=>dopsS P E D X all f (.one i r) (st&&(picks all l.spine.1).all ostill) m0 m t k∧dopsS P E D X all f (.one j s) (st&&(picks all l.spine.1).all ostill) m0 m t k∧dopsS P E D X all f (.one h u) (st&&(picks all l.spine.1).all ostill) m0 m t k)
  | .now i r=>dops P E D X all (picks all l.spine.1) st m0 m t (fun m t=>dops P E D (some []) all (picks all [i]) true m m t (fun m t=>dopsS P E D X all f r false m0 m t k))
  | .one _ _=>False
def dsetB (t:List TD) (c:Operand) (b:Bool):List TD:=match c with | .tmp i=>t.set i (.v (.bool b)) | _=>t
section
variable {P : Program} {W : World} {Q : Ending → World → Prop} {ds : List Deferred} {B : World → Prop} {D : DE} {E : Env}
theorem RM.hide {fs:List Fact}:∀(X:List Nat) {md:MD} {m:M},RM Ob fs md m→RM Ob fs (md.hide X) (m.hide X)
 | [],md,m,h=>h
 | b::X,md,m,h=>by
  refine RM.hide X (md:={ md with own:=md.own.set b none }) (m:={ m with own:=m.own.set b none }) ⟨h.fe,h.ob,by simp [h.ol],fun c cs ty hc=>?_,h.rl,h.row⟩
  simp only [List.getElem?_set] at hc ⊢
  by_cases e:b=c
  ·rw [if_pos e] at hc
   split at hc <;> simp at hc
  ·rw [if_neg e] at hc ⊢
   exact h.own c cs ty hc
theorem dalive_rel {fs:List Fact} {md:MD} {m:M} (h:RM Ob fs md m):∀(X:List Nat),dalive md X=true→alive m X=true
 | [],_=>rfl
 | b::X,hx=>by
  simp only [dalive,Bool.and_eq_true] at hx
  simp only [alive,Bool.and_eq_true]
  refine ⟨?_,dalive_rel h X hx.2⟩
  cases hb:(md.own[b]?).join with
  | none=>rw [hb] at hx;cases hx.1
  | some q=>
   obtain ⟨cs,ty⟩:=q
   obtain ⟨ts,h1,_⟩:=h.own b cs ty (Option.join_eq_some_iff.1 hb)
   rw [h1];rfl
theorem dtailS_sound {E':Env} (hD:D.Oks E P B E') (hX:E'.quiet=false∧E'.opens=[]) (hB:∀w,Below W.heap.size W w→B w) (hOb:∀g,W.heap.size≤g→Ob g) {all:List Oper} {kd:DM} {k:M→List T→Tree} :
  ∀(l:Ord) {fs:List Fact} {md:MD} {m:M} {td:List TD} {t:List T},RM Ob fs md m→RTs fs td t→dtailS P E' D all l md td kd→
  (∀fs' md td m t,RM Ob fs' md m→RTs fs' td t→kd md td→(k m t).wpD P W none Q ds)→(tailS E' all l m t k).wpD P W none Q ds
 | .done,fs,md,m,td,t,hm,ht,h,K=>K _ _ _ _ _ hm ht h
 | .last i r,fs,md,m,td,t,hm,ht,h,K=>
  dops_sound (X:=none) hD hX hB hOb _ hm (fun _ h=>h) (fun h=>absurd rfl h) hm ht h fun fs' md td m t _ _ hm ht h=>dtailS_sound hD hX hB hOb r hm ht h K
 | .one _ _,fs,md,m,td,t,hm,ht,h,K=>h.elim
 | .fork _ _ _ _,fs,md,m,td,t,hm,ht,h,K=>h.elim
 | .fork3 _ _ _ _ _ _,fs,md,m,td,t,hm,ht,h,K=>h.elim
 | .now _ _,fs,md,m,td,t,hm,ht,h,K=>h.elim
theorem dopsS_sound {E':Env} {X:List Nat} (hD:D.Oks E P B E') (hX:E'.quiet=true∧E'.bare=false) (hop:E'.opens=[]) (hB:∀w,Below W.heap.size W w→B w) (hOb:∀g,W.heap.size≤g→Ob g) {all:List Oper} {kd:DM} {k:M→List T→Tree} :
  ∀(f:Nat) (l:Ord) {st:Bool} {fs fs0:List Fact} {md0 md:MD} {m0 m:M} {td:List TD} {t:List T},RM Ob fs0 md0 m0→(∀φ∈fs0,φ∈fs)→(st=true→fs0=fs)→RM Ob fs md m→RTs fs td t→dopsS P E' D (some X) all f l st md0 md td kd→
  (∀fs' md td m t,RM Ob fs' md m→RTs fs' td t→kd md td→(k m t).wpD P W none Q ds)→(opsS E' (some X) all f l m0 m t k).wpD P W none Q ds
 | 0,l,st,fs,fs0,md0,md,m0,m,td,t,h0,hsub,hst,hm,ht,h,K=>h.elim
 | f+1,l,st,fs,fs0,md0,md,m0,m,td,t,h0,hsub,hst,hm,ht,h,K=>by
  unfold dopsS at h
  unfold opsS
  cases hs:l.spine.2 with
  | done=>
   rw [hs] at h
   simp only [forceL_eq] at h ⊢
   exact dops_sound (X:=some X) hD hX hB hOb _ h0 hsub (fun _=>hst) hm ht h fun fs' md td m t _ _ hm ht h=>K _ _ _ _ _ hm ht h
  | one i r=>rw [hs] at h;exact h.elim
  | last i r=>
   rw [hs] at h
   simp only [forceL_eq] at h ⊢
   refine dops_sound (X:=some X) hD hX hB hOb _ h0 hsub (fun _=>hst) hm ht h fun fs' md td m t _ _ hm ht h=>?_
   exact dtailS_sound (E':={ E' with quiet:=false }) ⟨hD.ok,hD.zero,hD.agg,hD.str,hD.keep,⟨hD.eok.zero,hD.eok.agg1,hD.eok.aggN,hD.eok.off,hD.eok.row,hD.eok.str,hD.eok.strs,hD.eok.ints,hD.eok.size,hD.eok.mixed,hD.eok.row1,hD.eok.meth,hD.eok.arr⟩⟩ ⟨rfl,hop⟩ hB hOb _ hm ht h K
  | fork i r j s=>
   rw [hs] at h
   simp only [forceL_eq] at h ⊢
   refine dops_sound (X:=some X) hD hX hB hOb _ h0 hsub (fun _=>hst) hm ht h fun fs' md td m t hs' hst' hm ht h=>?_
   have hq:∀φ∈fs0,φ∈fs':=fun φ hφ=>hs' _ (hsub _ hφ)
   exact ⟨dopsS_sound hD hX hop hB hOb f _ h0 hq (hst' (by simp)) hm ht h.1 K,dopsS_sound hD hX hop hB hOb f _ h0 hq (hst' (by simp)) hm ht h.2 K⟩
  | fork3 i r j s l u=>
   rw [hs] at h
   simp only [forceL_eq] at h ⊢
   refine dops_sound (X:=some X) hD hX hB hOb _ h0 hsub (fun _=>hst) hm ht h fun fs' md td m t hs' hst' hm ht h=>?_
   have hq:∀φ∈fs0,φ∈fs':=fun φ hφ=>hs' _ (hsub _ hφ)
   exact ⟨dopsS_sound hD hX hop hB hOb f _ h0 hq (hst' (by simp)) hm ht h.1 K,dopsS_sound hD hX hop hB hOb f _ h0 hq (hst' (by simp)) hm ht h.2.1 K,dopsS_sound hD hX hop hB hOb f _ h0 hq (hst' (by simp)) hm ht h.2.2 K⟩
  | now i r=>
   rw [hs] at h
   simp only [forceL_eq] at h ⊢
   refine dops_sound (X:=some X) hD hX hB hOb _ h0 hsub (fun _=>hst) hm ht h fun fs' md td m t hs' hst' hm ht h=>?_
   have hq:∀φ∈fs0,φ∈fs':=fun φ hφ=>hs' _ (hsub _ hφ)
   rw [hX.2]
   refine dops_sound (X:=some []) hD hX hB hOb _ hm (fun _ h=>h) (fun _ _=>rfl) hm ht h fun fs2 md td m t hs2 _ hm ht h=>?_
   exact dopsS_sound hD hX hop hB hOb f _ h0 (fun φ hφ=>hs2 _ (hq _ hφ)) (fun h=>by cases h) hm ht h K
theorem dpres_rel {fs:List Fact}:∀(l:List Nat),RTs fs (l.map TD.r) (rowsT l)
 | []=>RTs.nil
 | i::l=>RTs.cons (c:=.r i) (t:=.r i) rfl (dpres_rel l)
theorem dsetB_rel {fs:List Fact} {td:List TD} {t:List T} (h:RTs fs td t) (c:Operand) (b:Bool):RTs fs (dsetB td c b) (setB t c b):=by
 cases c with
 | tmp i=>exact h.set i (x:=.v (.bool b)) (y:=.v (.bool b)) rfl
 | _=>exact h
end
end Go.Proofs.YtdbjakibneeeiaaGreatDoor.Sx
namespace Go.Proofs.YtdbjakibneeeiaaGreatDoor.Sx
open Go.RowKit
variable {Ob : Nat → Prop}
def disV (x:TD):Bool:=match x with | .v _=>true | .d _ _=>true | .g _=>true | .u _=>true | _=>false
def dresAll (E:Env) (sy:List (TypeId×Sh)):List ResultVar→MD→List TD→(List TD→Prop)→Prop
 | [],m,t,k=>k []
 | .tmp i::l,m,t,k=>dshareOne sy (dget t i) m t (fun x m t=>bif disV x then dresAll E sy l m t (fun vs=>k (x::vs)) else False)
 | .cell i ty::l,m,t,k=>match dget t i with
  | .p b off=>match (m.own[b]?).join,lk E.agg ty with
   | some (cs,_),some (some n)=>dshareAll sy (dsub cs off n) m t (fun xs m t=>bif xs.all disV&&(xs.length==n) then dresAll E sy l m t (fun vs=>k (.g xs::vs)) else False)
   | some (cs,_),some none=>match cs[off]? with
    | some x=>dshareOne sy x m t (fun x m t=>bif disV x then dresAll E sy l m t (fun vs=>k (x::vs)) else False)
    | none=>False
   | _,_=>False
  | _=>False
def danys:Nat→List TD
 | 0=>[]
 | n+1=>.any::danys n
section
variable {P : Program} {W : World} {Q : Ending → World → Prop} {ds : List Deferred} {B : World → Prop} {D : DE} {E : Env}
theorem disV_val {fs:List Fact} {x:TD} {t:T} (hx:disV x=true) (h:RelT fs x t):∃y,t=.v y∧RelV fs x y:=by
 cases x with
 | v u=>exact ⟨u,h,rfl⟩
 | d s L=>exact h
 | g cs=>exact h
 | u cs=>exact h
 | _=>cases hx
theorem disV_vals {fs:List Fact}:∀{xs:List TD} {ts:List T},xs.all disV=true→RTs fs xs ts→∃vs,valsOf ts=some vs∧RelVs fs xs vs∧vs.length=xs.length
 | [],ts,_,h=>by
  have:ts=[]:=List.eq_nil_of_length_eq_zero (by simpa using h.1.symm)
  subst this
  exact ⟨[],rfl,rfl,rfl⟩
 | x::xs,ts,hx,h=>by
  obtain ⟨u,us,rfl,h1,h2⟩:=h.tail
  simp only [List.all_cons,Bool.and_eq_true] at hx
  obtain ⟨y,rfl,hy⟩:=disV_val hx.1 h1
  obtain ⟨vs,e,hv,hl⟩:=disV_vals hx.2 h2
  exact ⟨y::vs,by simp only [valsOf,e,Option.map_some],⟨y,vs,rfl,hy,hv⟩,by simp [hl]⟩
theorem dres_sound {E':Env} {sy:List (TypeId×Sh)} (hOb:∀g,W.heap.size≤g→Ob g) :
  ∀(l:List ResultVar) {fs:List Fact} {md:MD} {m:M} {td:List TD} {t:List T} {kd:List TD→Prop} {k:List Value→M→Tree},RM Ob fs md m→RTs fs td t→dresAll E' sy l md td kd→
  (∀fs' us vs md m,(∀φ∈fs,φ∈fs')→RM Ob fs' md m→RelVs fs' us vs→kd us→(k vs m).wpD P W none Q ds)→(resAll E' l m t k).wpD P W none Q ds
 | [],fs,md,m,td,t,kd,k,hm,ht,h,K=>K fs [] [] md m (fun _ h=>h) hm rfl h
 | .tmp i::l,fs,md,m,td,t,kd,k,hm,ht,h,K=>by
  have hOb':∀g,W.heap.size≤g∨some g=none→Ob g:=fun g h=>h.elim (hOb g) (fun h=>by cases h)
  refine dshareOne_sound (G:=none) hOb' (ht.get i) hm ht h fun fs' xd md td x m t hs hx hm ht h=>?_
  cases hv:disV xd with
  | false=>rw [hv] at h;exact h.elim
  | true=>
   rw [hv] at h
   obtain ⟨y,rfl,hy⟩:=disV_val hv hx
   exact dres_sound hOb l hm ht h fun fs2 us vs md m hs2 hm hu hk=>K fs2 (xd::us) (y::vs) md m (fun φ hφ=>hs2 _ (hs _ hφ)) hm ⟨y,vs,rfl,hy.mono hs2,hu⟩ hk
 | .cell i ty::l,fs,md,m,td,t,kd,k,hm,ht,h,K=>by
  have hOb':∀g,W.heap.size≤g∨some g=none→Ob g:=fun g h=>h.elim (hOb g) (fun h=>by cases h)
  unfold dresAll at h
  unfold resAll
  have hi:=ht.get i
  cases hd:dget td i with
  | p b off=>
   rw [hd] at h hi
   have hi:get t i=.p b off:=hi
   rw [hi]
   simp only at h ⊢
   cases hb:(md.own[b]?).join with
   | none=>rw [hb] at h;cases hag:lk E'.agg ty <;> rw [hag] at h <;> exact h.elim
   | some q=>
    obtain ⟨cs,e⟩:=q
    obtain ⟨ts,hts,hr⟩:=hm.own b cs e (Option.join_eq_some_iff.1 hb)
    have hc:m.cells b=some (ts,e):=by unfold M.cells;rw [hts];rfl
    rw [hb] at h
    rw [hc]
    cases hag:lk E'.agg ty with
    | none=>rw [hag] at h;exact h.elim
    | some n=>
     rw [hag] at h
     cases n with
     | some n=>
      refine dshareAll_sound (G:=none) hOb' _ _ ((hr.drop off).take n) hm ht h fun fs' xs md td ts' m t hs hx hm ht h=>?_
      cases hv:xs.all disV&&(xs.length==n) with
      | false=>rw [hv] at h;exact h.elim
      | true=>
       rw [hv] at h
       rw [Bool.and_eq_true] at hv
       obtain ⟨vs0,e0,h0,l0⟩:=disV_vals hv.1 hx
       simp only [e0,l0,hv.2,cond_true]
       exact dres_sound hOb l hm ht h fun fs2 us vs md m hs2 hm hu hk=>K fs2 (.g xs::us) (.agg vs0.toArray::vs) md m (fun φ hφ=>hs2 _ (hs _ hφ)) hm ⟨_,vs,rfl,⟨vs0,rfl,h0.mono hs2⟩,hu⟩ hk
     | none=>
      simp only at h ⊢
      cases hcx:cs[off]? with
      | none=>rw [hcx] at h;exact h.elim
      | some x=>
       rw [hcx] at h
       obtain ⟨y,hy,hxy⟩:=hr.2 off x hcx
       rw [nth_eq,hy]
       refine dshareOne_sound (G:=none) hOb' hxy hm ht h fun fs' xd md td x m t hs hx hm ht h=>?_
       cases hv:disV xd with
       | false=>rw [hv] at h;exact h.elim
       | true=>
        rw [hv] at h
        obtain ⟨y,rfl,hy⟩:=disV_val hv hx
        exact dres_sound hOb l hm ht h fun fs2 us vs md m hs2 hm hu hk=>K fs2 (xd::us) (y::vs) md m (fun φ hφ=>hs2 _ (hs _ hφ)) hm ⟨y,vs,rfl,hy.mono hs2,hu⟩ hk
  | _=>rw [hd] at h;exact h.elim
theorem danys_rel {fs:List Fact}:∀n,RTs fs (danys n) (anys n)
 | 0=>RTs.nil
 | n+1=>RTs.cons (c:=.any) (t:=.any) trivial (danys_rel n)
theorem lieA_len {R:Option Addr→List Value→Prop}:∀{l:List Sh} {x:DenL l} {vs:List Value},LieA R l x vs→vs.length=l.length
 | [],_,_,h=>by have h:_=_:=h;rw [h];rfl
 | s::l,_,_,⟨y,us,e,_,h⟩=>by rw [e];simp [lieA_len h]
end
end Go.Proofs.YtdbjakibneeeiaaGreatDoor.Sx
