/- The table of types that plans know. -/
import Derived.Test.YtmoopmcdolonjaaGreatDoorKShEnv
import Derived.Test.YtmoopmcdolonjaaGreatDoorChecked
import Derived.Test.YtmoopmcdolonjaaGreatDoorKSxMM
set_option linter.all false
set_option maxHeartbeats 4000000
set_option maxRecDepth 100000
namespace Go.Proofs.YtmoopmcdolonjaaGreatDoor.Sxk
open Go.RowKit Sx
def env0:Sx.Env:={
 zero:=[(50,[.v (.bool false),.v (.int .i64 0),.v (.int .i64 0),.v (.int .i64 0),.v (.slice none 0 0),.v (.slice none 0 0),.v (.int .i64 0),.v (.int .i64 0),.v (.int .i64 0),.v (.int .i64 0),.v (.int .i64 0),.v (.int .i64 0),.v (.string ByteArray.empty),.v (.slice none 0 0),.v (.int .i64 0)]),(73,[.v (.bool false),.v (.int .i64 0),.v (.int .i64 0),.v (.int .i64 0),.v (.slice none 0 0),.v (.slice none 0 0),.v (.int .i64 0),.v (.int .i64 0),.v (.int .i64 0),.v (.int .i64 0),.v (.int .i64 0),.v (.int .i64 0),.v (.string ByteArray.empty),.v (.slice none 0 0),.v (.int .i64 0)])]
 agg:=[(50,some 15),(73,some 15)]
 off:=[((50,0),0),((50,1),1),((50,2),2),((50,3),5),((50,4),6),((73,0),0),((73,1),1),((73,2),2),((73,3),5),((73,4),6)]
 row:=[]
 str:=[(50,([.v (.bool false),.v (.int .i64 0),.v (.int .i64 0),.v (.int .i64 0),.v (.slice none 0 0),.v (.slice none 0 0),.v (.int .i64 0),.v (.int .i64 0),.v (.int .i64 0),.v (.int .i64 0),.v (.int .i64 0),.v (.int .i64 0),.v (.string ByteArray.empty),.v (.slice none 0 0),.v (.int .i64 0)],[(0,1),(1,1),(2,3),(5,1),(6,9)])),(73,([.v (.bool false),.v (.int .i64 0),.v (.int .i64 0),.v (.int .i64 0),.v (.slice none 0 0),.v (.slice none 0 0),.v (.int .i64 0),.v (.int .i64 0),.v (.int .i64 0),.v (.int .i64 0),.v (.int .i64 0),.v (.int .i64 0),.v (.string ByteArray.empty),.v (.slice none 0 0),.v (.int .i64 0)],[(0,1),(1,1),(2,3),(5,1),(6,9)]))]
 strs:=[]
 ints:=[]
 how:=[]
 meth:=[]
 opens:=[]
 arr:=[] }
theorem lk_app {α β:Type} [BEq α]:∀{l r:List (α×β)} {x:α} {y:β},lk (l++r) x=some y→lk l x=some y∨lk r x=some y
 |[],r,x,y,h=>.inr h
 |(k,v)::l,r,x,y,h=>by
  simp only[List.cons_append,lk] at h ⊢
  cases hb:(k==x) with
  |true=>rw[hb] at h;exact .inl h
  |false=>rw[hb] at h;exact lk_app (l:=l) h
abbrev app (A B:Sx.Env):Sx.Env:={ A with zero:=A.zero++B.zero,agg:=A.agg++B.agg,off:=A.off++B.off,row:=A.row++B.row,str:=A.str++B.str,strs:=A.strs++B.strs,ints:=A.ints++B.ints,meth:=A.meth++B.meth,arr:=A.arr++B.arr }
theorem app_ok {A B:Sx.Env} {P:Program} (a:Sx.Env.Ok A P) (b:Sx.Env.Ok B P):Sx.Env.Ok (app A B) P where
 zero:=fun e cs h=>(lk_app h).elim (a.zero e cs) (b.zero e cs)
 agg1:=fun ty h=>(lk_app h).elim (a.agg1 ty) (b.agg1 ty)
 aggN:=fun ty n h=>(lk_app h).elim (a.aggN ty n) (b.aggN ty n)
 off:=fun s f d h=>(lk_app h).elim (a.off s f d) (b.off s f d)
 row:=fun ty e s y h=>(lk_app h).elim (a.row ty e s y) (b.row ty e s y)
 str:=fun ty cs pl h=>(lk_app h).elim (a.str ty cs pl) (b.str ty cs pl)
 strs:=fun ty u h=>(lk_app h).elim (a.strs ty u) (b.strs ty u)
 ints:=fun ty u h=>(lk_app h).elim (a.ints ty u) (b.ints ty u)
 size:=fun ty n h=>(lk_app h).elim (a.size ty n) (b.size ty n)
 mixed:=a.mixed
 row1:=fun ty e s y h=>(lk_app h).elim (a.row1 ty e s y) (b.row1 ty e s y)
 meth:=fun ty n g h=>(lk_app h).elim (a.meth ty n g) (b.meth ty n g)
 arr:=fun ty n s h=>(lk_app h).elim (a.arr ty n s) (b.arr ty n s)
theorem env0_ok:Sx.Env.Ok env0 Tryz.prog where
 zero:=by
  intro e cs h
  have hm:=lk_mem h
  simp only[env0,List.mem_cons,Prod.mk.injEq,List.not_mem_nil,or_false] at hm
  rcases hm with ⟨rfl,rfl⟩|⟨rfl,rfl⟩
  ·exact⟨.agg #[.bool false,.int .i64 0,.int .i64 0,.int .i64 0,.slice none 0 0,.slice none 0 0,.int .i64 0,.int .i64 0,.int .i64 0,.int .i64 0,.int .i64 0,.int .i64 0,.string ByteArray.empty,.slice none 0 0,.int .i64 0],by funext w;kernel_rfl,by exact Rels.vals (β:=[]) (ρ:=[]) [.bool false,.int .i64 0,.int .i64 0,.int .i64 0,.slice none 0 0,.slice none 0 0,.int .i64 0,.int .i64 0,.int .i64 0,.int .i64 0,.int .i64 0,.int .i64 0,.string ByteArray.empty,.slice none 0 0,.int .i64 0],by simp[Value.cells,Value.oneCell']⟩
  ·exact⟨.agg #[.bool false,.int .i64 0,.int .i64 0,.int .i64 0,.slice none 0 0,.slice none 0 0,.int .i64 0,.int .i64 0,.int .i64 0,.int .i64 0,.int .i64 0,.int .i64 0,.string ByteArray.empty,.slice none 0 0,.int .i64 0],by funext w;kernel_rfl,by exact Rels.vals (β:=[]) (ρ:=[]) [.bool false,.int .i64 0,.int .i64 0,.int .i64 0,.slice none 0 0,.slice none 0 0,.int .i64 0,.int .i64 0,.int .i64 0,.int .i64 0,.int .i64 0,.int .i64 0,.string ByteArray.empty,.slice none 0 0,.int .i64 0],by simp[Value.cells,Value.oneCell']⟩
 agg1:=by
  intro ty h
  have hm:=lk_mem h
  simp only[env0,List.mem_cons,Prod.mk.injEq,List.not_mem_nil,or_false] at hm
  rcases hm with ⟨rfl,hn⟩|⟨rfl,hn⟩
  ·cases hn
  ·cases hn
 aggN:=by
  intro ty n h
  have hm:=lk_mem h
  simp only[env0,List.mem_cons,Prod.mk.injEq,List.not_mem_nil,or_false] at hm
  rcases hm with ⟨rfl,hn⟩|⟨rfl,hn⟩
  ·(cases hn;exact load_agg (fun w=>by kernel_rfl) (by kernel_rfl))
  ·(cases hn;exact load_agg (fun w=>by kernel_rfl) (by kernel_rfl))
 off:=by
  intro s f d h
  have hm:=lk_mem h
  simp only[env0,List.mem_cons,Prod.mk.injEq,List.not_mem_nil,or_false] at hm
  rcases hm with ⟨⟨rfl,rfl⟩,rfl⟩|⟨⟨rfl,rfl⟩,rfl⟩|⟨⟨rfl,rfl⟩,rfl⟩|⟨⟨rfl,rfl⟩,rfl⟩|⟨⟨rfl,rfl⟩,rfl⟩|⟨⟨rfl,rfl⟩,rfl⟩|⟨⟨rfl,rfl⟩,rfl⟩|⟨⟨rfl,rfl⟩,rfl⟩|⟨⟨rfl,rfl⟩,rfl⟩|⟨⟨rfl,rfl⟩,rfl⟩
  ·exact fun a w=>by kernel_rfl
  ·exact fun a w=>by kernel_rfl
  ·exact fun a w=>by kernel_rfl
  ·exact fun a w=>by kernel_rfl
  ·exact fun a w=>by kernel_rfl
  ·exact fun a w=>by kernel_rfl
  ·exact fun a w=>by kernel_rfl
  ·exact fun a w=>by kernel_rfl
  ·exact fun a w=>by kernel_rfl
  ·exact fun a w=>by kernel_rfl
 row:=by intro ty e size bytes h;exact absurd h (by simp[env0,lk])
 str:=by
  intro ty cs places h
  have hm:=lk_mem h
  simp only[env0,List.mem_cons,Prod.mk.injEq,List.not_mem_nil,or_false] at hm
  rcases hm with ⟨rfl,rfl,rfl⟩|⟨rfl,rfl,rfl⟩
  ·exact⟨[.bool false,.int .i64 0,.int .i64 0,.int .i64 0,.slice none 0 0,.slice none 0 0,.int .i64 0,.int .i64 0,.int .i64 0,.int .i64 0,.int .i64 0,.int .i64 0,.string ByteArray.empty,.slice none 0 0,.int .i64 0],Rels.vals (β:=[]) (ρ:=[]) [.bool false,.int .i64 0,.int .i64 0,.int .i64 0,.slice none 0 0,.slice none 0 0,.int .i64 0,.int .i64 0,.int .i64 0,.int .i64 0,.int .i64 0,.int .i64 0,.string ByteArray.empty,.slice none 0 0,.int .i64 0],built Tryz.underlying50 (fun w=>by kernel_rfl) (fun w=>by kernel_rfl)⟩
  ·exact⟨[.bool false,.int .i64 0,.int .i64 0,.int .i64 0,.slice none 0 0,.slice none 0 0,.int .i64 0,.int .i64 0,.int .i64 0,.int .i64 0,.int .i64 0,.int .i64 0,.string ByteArray.empty,.slice none 0 0,.int .i64 0],Rels.vals (β:=[]) (ρ:=[]) [.bool false,.int .i64 0,.int .i64 0,.int .i64 0,.slice none 0 0,.slice none 0 0,.int .i64 0,.int .i64 0,.int .i64 0,.int .i64 0,.int .i64 0,.int .i64 0,.string ByteArray.empty,.slice none 0 0,.int .i64 0],built Tryz.underlying73 (fun w=>by kernel_rfl) (fun w=>by kernel_rfl)⟩
 strs:=by intro ty u h;exact absurd h (by simp[env0,lk])
 ints:=by intro ty u h;exact absurd h (by simp[env0,lk])
 size:=by
  intro ty n h
  have hm:=lk_mem h
  simp only[env0,List.mem_cons,Prod.mk.injEq,List.not_mem_nil,or_false] at hm
  rcases hm with ⟨rfl,rfl⟩|⟨rfl,rfl⟩
  ·exact info_size (by kernel_rfl)
  ·exact info_size (by kernel_rfl)
 mixed:=by kernel_rfl
 row1:=by intro ty e size bytes h;exact absurd h (by simp[env0,lk])
 meth:=by intro ty n g h;cases h
 arr:=by intro ty n size h;cases h
def env:Sx.Env:=app Sxs.env env0
theorem env_ok:Sx.Env.Ok env Tryz.prog:=app_ok Sxs.env_ok env0_ok
end Go.Proofs.YtmoopmcdolonjaaGreatDoor.Sxk
namespace Go.Proofs.YtmoopmcdolonjaaGreatDoor.Sxt
open Go.RowKit Sx Sxk
def env1:Sx.Env:={
 zero:=[(26,[.v (.slice none 0 0)]),(54,[.v (.slice none 0 0)]),(55,[.v (.int .i64 0),.v (.int .i64 0)]),(28,[.v (.int .i64 0),.v (.int .i64 0)]),(58,[.v (.int .i64 0),.v (.int .i64 0),.v (.int .i64 0),.v (.int .i64 0),.v (.int .i64 0),.v (.int .i64 0),.v (.int .i64 0),.v (.int .i64 0),.v (.slice none 0 0),.v (.int .i64 0),.v (.int .i64 0),.v (.slice none 0 0)]),(31,[.v (.int .i64 0),.v (.int .i64 0),.v (.int .i64 0),.v (.int .i64 0),.v (.int .i64 0),.v (.int .i64 0),.v (.int .i64 0),.v (.int .i64 0),.v (.slice none 0 0),.v (.int .i64 0),.v (.int .i64 0),.v (.slice none 0 0)]),(52,[.v (.int .i64 0),.v (.int .i64 0),.v (.int .i64 0),.v (.int .i64 0),.v (.string ByteArray.empty),.v (.int .i64 0),.v (.int .i64 0),.v (.bool false),.v (.int .i64 0),.v (.int .i64 0),.v (.int .i64 0),.v (.slice none 0 0),.v (.slice none 0 0),.v (.int .i64 0),.v (.int .i64 0),.v (.int .i64 0),.v (.int .i64 0),.v (.int .i64 0),.v (.int .i64 0),.v (.string ByteArray.empty),.v (.slice none 0 0),.v (.int .i64 0),.v (.int .i64 0),.v (.int .i64 0),.v (.int .i64 0),.v (.int .i64 0),.v (.int .i64 0),.v (.int .i64 0),.v (.string ByteArray.empty),.v (.slice none 0 0),.v (.int .i64 0),.v (.bool false)]),(75,[.v (.int .i64 0),.v (.int .i64 0),.v (.int .i64 0),.v (.int .i64 0),.v (.string ByteArray.empty),.v (.int .i64 0),.v (.int .i64 0),.v (.bool false),.v (.int .i64 0),.v (.int .i64 0),.v (.int .i64 0),.v (.slice none 0 0),.v (.slice none 0 0),.v (.int .i64 0),.v (.int .i64 0),.v (.int .i64 0),.v (.int .i64 0),.v (.int .i64 0),.v (.int .i64 0),.v (.string ByteArray.empty),.v (.slice none 0 0),.v (.int .i64 0),.v (.int .i64 0),.v (.int .i64 0),.v (.int .i64 0),.v (.int .i64 0),.v (.int .i64 0),.v (.int .i64 0),.v (.string ByteArray.empty),.v (.slice none 0 0),.v (.int .i64 0),.v (.bool false)])]
 agg:=[(26,none),(54,none),(55,some 2),(28,some 2),(58,some 12),(31,some 12),(52,some 32),(75,some 32)]
 off:=[((55,0),0),((55,1),1),((28,0),0),((28,1),1),((58,0),0),((58,1),8),((58,2),9),((58,3),11),((31,0),0),((31,1),8),((31,2),9),((31,3),11),((52,0),0),((52,1),5),((52,2),6),((52,3),7),((52,4),22),((52,5),31),((75,0),0),((75,1),5),((75,2),6),((75,3),7),((75,4),22),((75,5),31)]
 row:=[(26,(3,1,8)),(54,(3,1,8))]
 str:=[(55,([.v (.int .i64 0),.v (.int .i64 0)],[(0,1),(1,1)])),(28,([.v (.int .i64 0),.v (.int .i64 0)],[(0,1),(1,1)])),(58,([.v (.int .i64 0),.v (.int .i64 0),.v (.int .i64 0),.v (.int .i64 0),.v (.int .i64 0),.v (.int .i64 0),.v (.int .i64 0),.v (.int .i64 0),.v (.slice none 0 0),.v (.int .i64 0),.v (.int .i64 0),.v (.slice none 0 0)],[(0,8),(8,1),(9,2),(11,1)])),(31,([.v (.int .i64 0),.v (.int .i64 0),.v (.int .i64 0),.v (.int .i64 0),.v (.int .i64 0),.v (.int .i64 0),.v (.int .i64 0),.v (.int .i64 0),.v (.slice none 0 0),.v (.int .i64 0),.v (.int .i64 0),.v (.slice none 0 0)],[(0,8),(8,1),(9,2),(11,1)])),(52,([.v (.int .i64 0),.v (.int .i64 0),.v (.int .i64 0),.v (.int .i64 0),.v (.string ByteArray.empty),.v (.int .i64 0),.v (.int .i64 0),.v (.bool false),.v (.int .i64 0),.v (.int .i64 0),.v (.int .i64 0),.v (.slice none 0 0),.v (.slice none 0 0),.v (.int .i64 0),.v (.int .i64 0),.v (.int .i64 0),.v (.int .i64 0),.v (.int .i64 0),.v (.int .i64 0),.v (.string ByteArray.empty),.v (.slice none 0 0),.v (.int .i64 0),.v (.int .i64 0),.v (.int .i64 0),.v (.int .i64 0),.v (.int .i64 0),.v (.int .i64 0),.v (.int .i64 0),.v (.string ByteArray.empty),.v (.slice none 0 0),.v (.int .i64 0),.v (.bool false)],[(0,5),(5,1),(6,1),(7,15),(22,9),(31,1)])),(75,([.v (.int .i64 0),.v (.int .i64 0),.v (.int .i64 0),.v (.int .i64 0),.v (.string ByteArray.empty),.v (.int .i64 0),.v (.int .i64 0),.v (.bool false),.v (.int .i64 0),.v (.int .i64 0),.v (.int .i64 0),.v (.slice none 0 0),.v (.slice none 0 0),.v (.int .i64 0),.v (.int .i64 0),.v (.int .i64 0),.v (.int .i64 0),.v (.int .i64 0),.v (.int .i64 0),.v (.string ByteArray.empty),.v (.slice none 0 0),.v (.int .i64 0),.v (.int .i64 0),.v (.int .i64 0),.v (.int .i64 0),.v (.int .i64 0),.v (.int .i64 0),.v (.int .i64 0),.v (.string ByteArray.empty),.v (.slice none 0 0),.v (.int .i64 0),.v (.bool false)],[(0,5),(5,1),(6,1),(7,15),(22,9),(31,1)]))]
 strs:=[]
 ints:=[]
 how:=[]
 meth:=[]
 opens:=[]
 arr:=[] }
theorem env1_ok:Sx.Env.Ok env1 Tryz.prog where
 zero:=by
  intro e cs h
  have hm:=lk_mem h
  simp only[env1,List.mem_cons,Prod.mk.injEq,List.not_mem_nil,or_false] at hm
  rcases hm with ⟨rfl,rfl⟩|⟨rfl,rfl⟩|⟨rfl,rfl⟩|⟨rfl,rfl⟩|⟨rfl,rfl⟩|⟨rfl,rfl⟩|⟨rfl,rfl⟩|⟨rfl,rfl⟩
  ·exact⟨.slice none 0 0,by funext w;kernel_rfl,by exact Rels.vals (β:=[]) (ρ:=[]) [.slice none 0 0],by simp[Value.cells,Value.oneCell']⟩
  ·exact⟨.slice none 0 0,by funext w;kernel_rfl,by exact Rels.vals (β:=[]) (ρ:=[]) [.slice none 0 0],by simp[Value.cells,Value.oneCell']⟩
  ·exact⟨.agg #[.int .i64 0,.int .i64 0],by funext w;kernel_rfl,by exact Rels.vals (β:=[]) (ρ:=[]) [.int .i64 0,.int .i64 0],by simp[Value.cells,Value.oneCell']⟩
  ·exact⟨.agg #[.int .i64 0,.int .i64 0],by funext w;kernel_rfl,by exact Rels.vals (β:=[]) (ρ:=[]) [.int .i64 0,.int .i64 0],by simp[Value.cells,Value.oneCell']⟩
  ·exact⟨.agg #[.int .i64 0,.int .i64 0,.int .i64 0,.int .i64 0,.int .i64 0,.int .i64 0,.int .i64 0,.int .i64 0,.slice none 0 0,.int .i64 0,.int .i64 0,.slice none 0 0],by funext w;kernel_rfl,by exact Rels.vals (β:=[]) (ρ:=[]) [.int .i64 0,.int .i64 0,.int .i64 0,.int .i64 0,.int .i64 0,.int .i64 0,.int .i64 0,.int .i64 0,.slice none 0 0,.int .i64 0,.int .i64 0,.slice none 0 0],by simp[Value.cells,Value.oneCell']⟩
  ·exact⟨.agg #[.int .i64 0,.int .i64 0,.int .i64 0,.int .i64 0,.int .i64 0,.int .i64 0,.int .i64 0,.int .i64 0,.slice none 0 0,.int .i64 0,.int .i64 0,.slice none 0 0],by funext w;kernel_rfl,by exact Rels.vals (β:=[]) (ρ:=[]) [.int .i64 0,.int .i64 0,.int .i64 0,.int .i64 0,.int .i64 0,.int .i64 0,.int .i64 0,.int .i64 0,.slice none 0 0,.int .i64 0,.int .i64 0,.slice none 0 0],by simp[Value.cells,Value.oneCell']⟩
  ·exact⟨.agg #[.int .i64 0,.int .i64 0,.int .i64 0,.int .i64 0,.string ByteArray.empty,.int .i64 0,.int .i64 0,.bool false,.int .i64 0,.int .i64 0,.int .i64 0,.slice none 0 0,.slice none 0 0,.int .i64 0,.int .i64 0,.int .i64 0,.int .i64 0,.int .i64 0,.int .i64 0,.string ByteArray.empty,.slice none 0 0,.int .i64 0,.int .i64 0,.int .i64 0,.int .i64 0,.int .i64 0,.int .i64 0,.int .i64 0,.string ByteArray.empty,.slice none 0 0,.int .i64 0,.bool false],by funext w;kernel_rfl,by exact Rels.vals (β:=[]) (ρ:=[]) [.int .i64 0,.int .i64 0,.int .i64 0,.int .i64 0,.string ByteArray.empty,.int .i64 0,.int .i64 0,.bool false,.int .i64 0,.int .i64 0,.int .i64 0,.slice none 0 0,.slice none 0 0,.int .i64 0,.int .i64 0,.int .i64 0,.int .i64 0,.int .i64 0,.int .i64 0,.string ByteArray.empty,.slice none 0 0,.int .i64 0,.int .i64 0,.int .i64 0,.int .i64 0,.int .i64 0,.int .i64 0,.int .i64 0,.string ByteArray.empty,.slice none 0 0,.int .i64 0,.bool false],by simp[Value.cells,Value.oneCell']⟩
  ·exact⟨.agg #[.int .i64 0,.int .i64 0,.int .i64 0,.int .i64 0,.string ByteArray.empty,.int .i64 0,.int .i64 0,.bool false,.int .i64 0,.int .i64 0,.int .i64 0,.slice none 0 0,.slice none 0 0,.int .i64 0,.int .i64 0,.int .i64 0,.int .i64 0,.int .i64 0,.int .i64 0,.string ByteArray.empty,.slice none 0 0,.int .i64 0,.int .i64 0,.int .i64 0,.int .i64 0,.int .i64 0,.int .i64 0,.int .i64 0,.string ByteArray.empty,.slice none 0 0,.int .i64 0,.bool false],by funext w;kernel_rfl,by exact Rels.vals (β:=[]) (ρ:=[]) [.int .i64 0,.int .i64 0,.int .i64 0,.int .i64 0,.string ByteArray.empty,.int .i64 0,.int .i64 0,.bool false,.int .i64 0,.int .i64 0,.int .i64 0,.slice none 0 0,.slice none 0 0,.int .i64 0,.int .i64 0,.int .i64 0,.int .i64 0,.int .i64 0,.int .i64 0,.string ByteArray.empty,.slice none 0 0,.int .i64 0,.int .i64 0,.int .i64 0,.int .i64 0,.int .i64 0,.int .i64 0,.int .i64 0,.string ByteArray.empty,.slice none 0 0,.int .i64 0,.bool false],by simp[Value.cells,Value.oneCell']⟩
 agg1:=by
  intro ty h
  have hm:=lk_mem h
  simp only[env1,List.mem_cons,Prod.mk.injEq,List.not_mem_nil,or_false] at hm
  rcases hm with ⟨rfl,hn⟩|⟨rfl,hn⟩|⟨rfl,hn⟩|⟨rfl,hn⟩|⟨rfl,hn⟩|⟨rfl,hn⟩|⟨rfl,hn⟩|⟨rfl,hn⟩
  ·exact fun a w=>by kernel_rfl
  ·exact fun a w=>by kernel_rfl
  ·cases hn
  ·cases hn
  ·cases hn
  ·cases hn
  ·cases hn
  ·cases hn
 aggN:=by
  intro ty n h
  have hm:=lk_mem h
  simp only[env1,List.mem_cons,Prod.mk.injEq,List.not_mem_nil,or_false] at hm
  rcases hm with ⟨rfl,hn⟩|⟨rfl,hn⟩|⟨rfl,hn⟩|⟨rfl,hn⟩|⟨rfl,hn⟩|⟨rfl,hn⟩|⟨rfl,hn⟩|⟨rfl,hn⟩
  ·cases hn
  ·cases hn
  ·(cases hn;exact load_agg (fun w=>by kernel_rfl) (by kernel_rfl))
  ·(cases hn;exact load_agg (fun w=>by kernel_rfl) (by kernel_rfl))
  ·(cases hn;exact load_agg (fun w=>by kernel_rfl) (by kernel_rfl))
  ·(cases hn;exact load_agg (fun w=>by kernel_rfl) (by kernel_rfl))
  ·(cases hn;exact load_agg (fun w=>by kernel_rfl) (by kernel_rfl))
  ·(cases hn;exact load_agg (fun w=>by kernel_rfl) (by kernel_rfl))
 off:=by
  intro s f d h
  have hm:=lk_mem h
  simp only[env1,List.mem_cons,Prod.mk.injEq,List.not_mem_nil,or_false] at hm
  rcases hm with ⟨⟨rfl,rfl⟩,rfl⟩|⟨⟨rfl,rfl⟩,rfl⟩|⟨⟨rfl,rfl⟩,rfl⟩|⟨⟨rfl,rfl⟩,rfl⟩|⟨⟨rfl,rfl⟩,rfl⟩|⟨⟨rfl,rfl⟩,rfl⟩|⟨⟨rfl,rfl⟩,rfl⟩|⟨⟨rfl,rfl⟩,rfl⟩|⟨⟨rfl,rfl⟩,rfl⟩|⟨⟨rfl,rfl⟩,rfl⟩|⟨⟨rfl,rfl⟩,rfl⟩|⟨⟨rfl,rfl⟩,rfl⟩|⟨⟨rfl,rfl⟩,rfl⟩|⟨⟨rfl,rfl⟩,rfl⟩|⟨⟨rfl,rfl⟩,rfl⟩|⟨⟨rfl,rfl⟩,rfl⟩|⟨⟨rfl,rfl⟩,rfl⟩|⟨⟨rfl,rfl⟩,rfl⟩|⟨⟨rfl,rfl⟩,rfl⟩|⟨⟨rfl,rfl⟩,rfl⟩|⟨⟨rfl,rfl⟩,rfl⟩|⟨⟨rfl,rfl⟩,rfl⟩|⟨⟨rfl,rfl⟩,rfl⟩|⟨⟨rfl,rfl⟩,rfl⟩
  ·exact fun a w=>by kernel_rfl
  ·exact fun a w=>by kernel_rfl
  ·exact fun a w=>by kernel_rfl
  ·exact fun a w=>by kernel_rfl
  ·exact fun a w=>by kernel_rfl
  ·exact fun a w=>by kernel_rfl
  ·exact fun a w=>by kernel_rfl
  ·exact fun a w=>by kernel_rfl
  ·exact fun a w=>by kernel_rfl
  ·exact fun a w=>by kernel_rfl
  ·exact fun a w=>by kernel_rfl
  ·exact fun a w=>by kernel_rfl
  ·exact fun a w=>by kernel_rfl
  ·exact fun a w=>by kernel_rfl
  ·exact fun a w=>by kernel_rfl
  ·exact fun a w=>by kernel_rfl
  ·exact fun a w=>by kernel_rfl
  ·exact fun a w=>by kernel_rfl
  ·exact fun a w=>by kernel_rfl
  ·exact fun a w=>by kernel_rfl
  ·exact fun a w=>by kernel_rfl
  ·exact fun a w=>by kernel_rfl
  ·exact fun a w=>by kernel_rfl
  ·exact fun a w=>by kernel_rfl
 row:=by
  intro ty e size bytes h
  have hm:=lk_mem h
  simp only[env1,List.mem_cons,Prod.mk.injEq,List.not_mem_nil,or_false] at hm
  rcases hm with ⟨rfl,rfl,rfl,rfl⟩|⟨rfl,rfl,rfl,rfl⟩
  ·exact⟨by kernel_rfl,info_row (by kernel_rfl) rfl (by decide)⟩
  ·exact⟨by kernel_rfl,info_row (by kernel_rfl) rfl (by decide)⟩
 str:=by
  intro ty cs places h
  have hm:=lk_mem h
  simp only[env1,List.mem_cons,Prod.mk.injEq,List.not_mem_nil,or_false] at hm
  rcases hm with ⟨rfl,rfl,rfl⟩|⟨rfl,rfl,rfl⟩|⟨rfl,rfl,rfl⟩|⟨rfl,rfl,rfl⟩|⟨rfl,rfl,rfl⟩|⟨rfl,rfl,rfl⟩
  ·exact⟨[.int .i64 0,.int .i64 0],Rels.vals (β:=[]) (ρ:=[]) [.int .i64 0,.int .i64 0],built Tryz.underlying55 (fun w=>by kernel_rfl) (fun w=>by kernel_rfl)⟩
  ·exact⟨[.int .i64 0,.int .i64 0],Rels.vals (β:=[]) (ρ:=[]) [.int .i64 0,.int .i64 0],built Tryz.underlying28 (fun w=>by kernel_rfl) (fun w=>by kernel_rfl)⟩
  ·exact⟨[.int .i64 0,.int .i64 0,.int .i64 0,.int .i64 0,.int .i64 0,.int .i64 0,.int .i64 0,.int .i64 0,.slice none 0 0,.int .i64 0,.int .i64 0,.slice none 0 0],Rels.vals (β:=[]) (ρ:=[]) [.int .i64 0,.int .i64 0,.int .i64 0,.int .i64 0,.int .i64 0,.int .i64 0,.int .i64 0,.int .i64 0,.slice none 0 0,.int .i64 0,.int .i64 0,.slice none 0 0],built Tryz.underlying58 (fun w=>by kernel_rfl) (fun w=>by kernel_rfl)⟩
  ·exact⟨[.int .i64 0,.int .i64 0,.int .i64 0,.int .i64 0,.int .i64 0,.int .i64 0,.int .i64 0,.int .i64 0,.slice none 0 0,.int .i64 0,.int .i64 0,.slice none 0 0],Rels.vals (β:=[]) (ρ:=[]) [.int .i64 0,.int .i64 0,.int .i64 0,.int .i64 0,.int .i64 0,.int .i64 0,.int .i64 0,.int .i64 0,.slice none 0 0,.int .i64 0,.int .i64 0,.slice none 0 0],built Tryz.underlying31 (fun w=>by kernel_rfl) (fun w=>by kernel_rfl)⟩
  ·exact⟨[.int .i64 0,.int .i64 0,.int .i64 0,.int .i64 0,.string ByteArray.empty,.int .i64 0,.int .i64 0,.bool false,.int .i64 0,.int .i64 0,.int .i64 0,.slice none 0 0,.slice none 0 0,.int .i64 0,.int .i64 0,.int .i64 0,.int .i64 0,.int .i64 0,.int .i64 0,.string ByteArray.empty,.slice none 0 0,.int .i64 0,.int .i64 0,.int .i64 0,.int .i64 0,.int .i64 0,.int .i64 0,.int .i64 0,.string ByteArray.empty,.slice none 0 0,.int .i64 0,.bool false],Rels.vals (β:=[]) (ρ:=[]) [.int .i64 0,.int .i64 0,.int .i64 0,.int .i64 0,.string ByteArray.empty,.int .i64 0,.int .i64 0,.bool false,.int .i64 0,.int .i64 0,.int .i64 0,.slice none 0 0,.slice none 0 0,.int .i64 0,.int .i64 0,.int .i64 0,.int .i64 0,.int .i64 0,.int .i64 0,.string ByteArray.empty,.slice none 0 0,.int .i64 0,.int .i64 0,.int .i64 0,.int .i64 0,.int .i64 0,.int .i64 0,.int .i64 0,.string ByteArray.empty,.slice none 0 0,.int .i64 0,.bool false],built Tryz.underlying52 (fun w=>by kernel_rfl) (fun w=>by kernel_rfl)⟩
  ·exact⟨[.int .i64 0,.int .i64 0,.int .i64 0,.int .i64 0,.string ByteArray.empty,.int .i64 0,.int .i64 0,.bool false,.int .i64 0,.int .i64 0,.int .i64 0,.slice none 0 0,.slice none 0 0,.int .i64 0,.int .i64 0,.int .i64 0,.int .i64 0,.int .i64 0,.int .i64 0,.string ByteArray.empty,.slice none 0 0,.int .i64 0,.int .i64 0,.int .i64 0,.int .i64 0,.int .i64 0,.int .i64 0,.int .i64 0,.string ByteArray.empty,.slice none 0 0,.int .i64 0,.bool false],Rels.vals (β:=[]) (ρ:=[]) [.int .i64 0,.int .i64 0,.int .i64 0,.int .i64 0,.string ByteArray.empty,.int .i64 0,.int .i64 0,.bool false,.int .i64 0,.int .i64 0,.int .i64 0,.slice none 0 0,.slice none 0 0,.int .i64 0,.int .i64 0,.int .i64 0,.int .i64 0,.int .i64 0,.int .i64 0,.string ByteArray.empty,.slice none 0 0,.int .i64 0,.int .i64 0,.int .i64 0,.int .i64 0,.int .i64 0,.int .i64 0,.int .i64 0,.string ByteArray.empty,.slice none 0 0,.int .i64 0,.bool false],built Tryz.underlying75 (fun w=>by kernel_rfl) (fun w=>by kernel_rfl)⟩
 strs:=by intro ty u h;exact absurd h (by simp[env1,lk])
 ints:=by intro ty u h;exact absurd h (by simp[env1,lk])
 size:=by
  intro ty n h
  have hm:=lk_mem h
  simp only[env1,List.mem_cons,Prod.mk.injEq,List.not_mem_nil,or_false] at hm
  rcases hm with ⟨rfl,rfl⟩|⟨rfl,rfl⟩|⟨rfl,rfl⟩|⟨rfl,rfl⟩|⟨rfl,rfl⟩|⟨rfl,rfl⟩|⟨rfl,rfl⟩|⟨rfl,rfl⟩
  ·exact info_size (by kernel_rfl)
  ·exact info_size (by kernel_rfl)
  ·exact info_size (by kernel_rfl)
  ·exact info_size (by kernel_rfl)
  ·exact info_size (by kernel_rfl)
  ·exact info_size (by kernel_rfl)
  ·exact info_size (by kernel_rfl)
  ·exact info_size (by kernel_rfl)
 mixed:=by kernel_rfl
 row1:=by
  intro ty e size bytes h
  have hm:=lk_mem h
  simp only[env1,List.mem_cons,Prod.mk.injEq,List.not_mem_nil,or_false] at hm
  rcases hm with ⟨rfl,rfl,rfl,rfl⟩|⟨rfl,rfl,rfl,rfl⟩
  ·exact row_one (by kernel_rfl)
  ·exact row_one (by kernel_rfl)
 meth:=by intro ty n g h;cases h
 arr:=by intro ty n size h;cases h
def env:Sx.Env:=Sxk.app Sxk.env env1
theorem env_ok:Sx.Env.Ok env Tryz.prog:=app_ok Sxk.env_ok env1_ok
end Go.Proofs.YtmoopmcdolonjaaGreatDoor.Sxt
namespace Go.Proofs.YtmoopmcdolonjaaGreatDoor.Sxu
open Go.RowKit Sx Sxk
def env1:Sx.Env:={
 zero:=[(110,[.v (.nilFunc)]),(111,[.v (.nilFunc),.v (.nilFunc),.v (.nilFunc),.v (.nilFunc),.v (.nilFunc),.v (.nilFunc)])]
 agg:=[(110,none),(111,some 6)]
 off:=[]
 row:=[]
 str:=[]
 strs:=[]
 ints:=[]
 how:=[]
 meth:=[]
 opens:=[]
 arr:=[(111,(6,1))] }
theorem env1_ok:Sx.Env.Ok env1 Tryz.prog where
 zero:=by
  intro e cs h
  have hm:=lk_mem h
  simp only[env1,List.mem_cons,Prod.mk.injEq,List.not_mem_nil,or_false] at hm
  rcases hm with ⟨rfl,rfl⟩|⟨rfl,rfl⟩
  ·exact⟨.nilFunc,by funext w;kernel_rfl,by exact Rels.vals (β:=[]) (ρ:=[]) [.nilFunc],by simp[Value.cells,Value.oneCell']⟩
  ·exact⟨.agg #[.nilFunc,.nilFunc,.nilFunc,.nilFunc,.nilFunc,.nilFunc],by funext w;kernel_rfl,by exact Rels.vals (β:=[]) (ρ:=[]) [.nilFunc,.nilFunc,.nilFunc,.nilFunc,.nilFunc,.nilFunc],by simp[Value.cells,Value.oneCell']⟩
 agg1:=by
  intro ty h
  have hm:=lk_mem h
  simp only[env1,List.mem_cons,Prod.mk.injEq,List.not_mem_nil,or_false] at hm
  rcases hm with ⟨rfl,hn⟩|⟨rfl,hn⟩
  ·exact fun a w=>by kernel_rfl
  ·cases hn
 aggN:=by
  intro ty n h
  have hm:=lk_mem h
  simp only[env1,List.mem_cons,Prod.mk.injEq,List.not_mem_nil,or_false] at hm
  rcases hm with ⟨rfl,hn⟩|⟨rfl,hn⟩
  ·cases hn
  ·(cases hn;exact load_agg (fun w=>by kernel_rfl) (by kernel_rfl))
 off:=by intro s f d h;exact absurd h (by simp[env1,lk])
 row:=by intro ty e size bytes h;exact absurd h (by simp[env1,lk])
 str:=by intro ty cs places h;exact absurd h (by simp[env1,lk])
 strs:=by intro ty u h;exact absurd h (by simp[env1,lk])
 ints:=by intro ty u h;exact absurd h (by simp[env1,lk])
 size:=by
  intro ty n h
  have hm:=lk_mem h
  simp only[env1,List.mem_cons,Prod.mk.injEq,List.not_mem_nil,or_false] at hm
  rcases hm with ⟨rfl,rfl⟩|⟨rfl,rfl⟩
  ·exact info_size (by kernel_rfl)
  ·exact info_size (by kernel_rfl)
 mixed:=by kernel_rfl
 row1:=by intro ty e size bytes h;exact absurd h (by simp[env1,lk])
 meth:=by intro ty n g h;cases h
 arr:=by
  intro ty n size h
  have hm:=lk_mem h
  simp only[env1,List.mem_cons,Prod.mk.injEq,List.not_mem_nil,or_false] at hm
  rcases hm with ⟨rfl,rfl,rfl⟩
  ·exact array_at Tryz.underlying111 (by kernel_rfl)
def env0:Sx.Env:=Sxk.app Sxt.env env1
theorem env0_ok:Sx.Env.Ok env0 Tryz.prog:=app_ok Sxt.env_ok env1_ok
def env:Sx.Env:={ env0 with str:=(111,([.v .nilFunc,.v .nilFunc,.v .nilFunc,.v .nilFunc,.v .nilFunc,.v .nilFunc],[(0,1),(1,1),(2,1),(3,1),(4,1),(5,1)]))::env0.str }
theorem env_ok:Sx.Env.Ok env Tryz.prog:=
 Sx.Env.Ok.strA env0_ok 111 [.v .nilFunc,.v .nilFunc,.v .nilFunc,.v .nilFunc,.v .nilFunc,.v .nilFunc] [(0,1),(1,1),(2,1),(3,1),(4,1),(5,1)] [.nilFunc,.nilFunc,.nilFunc,.nilFunc,.nilFunc,.nilFunc] (Rels.vals [.nilFunc,.nilFunc,.nilFunc,.nilFunc,.nilFunc,.nilFunc]) (built_array (n:=6) (s:=1) Tryz.underlying111 (fun w=>by kernel_rfl) (fun w=>by kernel_rfl) (fun i q h=>by
  match i,h with
  |0,h=>cases h;rfl
  |1,h=>cases h;rfl
  |2,h=>cases h;rfl
  |3,h=>cases h;rfl
  |4,h=>cases h;rfl
  |5,h=>cases h;rfl
  |i+6,h=>simp[nth] at h))
end Go.Proofs.YtmoopmcdolonjaaGreatDoor.Sxu
