/- The table of types that plans know. -/
import Derived.Test.YtfhgkkcpkcjbmaaGreatDoorKShEnv
import Derived.Test.YtfhgkkcpkcjbmaaGreatDoorChecked
import Derived.Test.YtfhgkkcpkcjbmaaGreatDoorKSxMM
set_option linter.all false
set_option maxHeartbeats 4000000
set_option maxRecDepth 100000
namespace Go.Proofs.YtfhgkkcpkcjbmaaGreatDoor.Sxk
open Go.RowKit Sx
def env0:Sx.Env:={
 zero:=[(49,[.v (.bool false),.v (.int .i64 0),.v (.int .i64 0),.v (.int .i64 0),.v (.slice none 0 0),.v (.slice none 0 0),.v (.int .i64 0),.v (.int .i64 0),.v (.int .i64 0),.v (.int .i64 0),.v (.int .i64 0),.v (.int .i64 0),.v (.string ByteArray.empty),.v (.slice none 0 0),.v (.int .i64 0)]),(64,[.v (.bool false),.v (.int .i64 0),.v (.int .i64 0),.v (.int .i64 0),.v (.slice none 0 0),.v (.slice none 0 0),.v (.int .i64 0),.v (.int .i64 0),.v (.int .i64 0),.v (.int .i64 0),.v (.int .i64 0),.v (.int .i64 0),.v (.string ByteArray.empty),.v (.slice none 0 0),.v (.int .i64 0)])]
 agg:=[(49,some 15),(64,some 15)]
 off:=[((49,0),0),((49,1),1),((49,2),2),((49,3),5),((49,4),6),((64,0),0),((64,1),1),((64,2),2),((64,3),5),((64,4),6)]
 row:=[]
 str:=[(49,([.v (.bool false),.v (.int .i64 0),.v (.int .i64 0),.v (.int .i64 0),.v (.slice none 0 0),.v (.slice none 0 0),.v (.int .i64 0),.v (.int .i64 0),.v (.int .i64 0),.v (.int .i64 0),.v (.int .i64 0),.v (.int .i64 0),.v (.string ByteArray.empty),.v (.slice none 0 0),.v (.int .i64 0)],[(0,1),(1,1),(2,3),(5,1),(6,9)])),(64,([.v (.bool false),.v (.int .i64 0),.v (.int .i64 0),.v (.int .i64 0),.v (.slice none 0 0),.v (.slice none 0 0),.v (.int .i64 0),.v (.int .i64 0),.v (.int .i64 0),.v (.int .i64 0),.v (.int .i64 0),.v (.int .i64 0),.v (.string ByteArray.empty),.v (.slice none 0 0),.v (.int .i64 0)],[(0,1),(1,1),(2,3),(5,1),(6,9)]))]
 strs:=[]
 ints:=[]
 how:=[]
 meth:=[]
 opens:=[]
 arr:=[] }
theorem lk_app {α β:Type} [BEq α]:∀{l r:List (α×β)} {x:α} {y:β},lk (l++r) x=some y→lk l x=some y∨lk r x=some y
 | [],r,x,y,h=>.inr h
 | (k,v)::l,r,x,y,h=>by
  simp only [List.cons_append,lk] at h ⊢
  cases hb:(k==x) with
  | true=>rw [hb] at h;exact .inl h
  | false=>rw [hb] at h;exact lk_app (l:=l) h
abbrev app (A B:Sx.Env):Sx.Env:={ A with zero:=A.zero++B.zero,agg:=A.agg++B.agg,off:=A.off++B.off,row:=A.row++B.row,str:=A.str++B.str,strs:=A.strs++B.strs,ints:=A.ints++B.ints,meth:=A.meth++B.meth,arr:=A.arr++B.arr }
theorem app_ok {A B:Sx.Env} {P:Program} (a:Sx.Env.Ok A P) (b:Sx.Env.Ok B P):Sx.Env.Ok (app A B) P where
 zero:=fun e cs h=>(lk_app h).elim (a.zero e cs) (b.zero e cs)
 agg1:=fun ty h=>(lk_app h).elim (a.agg1 ty) (b.agg1 ty)
 aggN:=fun ty n h=>(lk_app h).elim (a.aggN ty n) (b.aggN ty n)
 off:=fun s f d h=>(lk_app h).elim (a.off s f d) (b.off s f d)
 row:=fun ty e s y h=>(lk_app h).elim (a.row ty e s y) (b.row ty e s y)
 str:=fun ty cs pl h=>(lk_app h).elim (a.str ty cs pl) (b.str ty cs pl)
 strs:=fun ty u h=>(lk_app h).elim (a.strs ty u) (b.strs ty u)
 ints:=fun ty u h=>(lk_app h).elim (a.ints ty u) (b.ints ty u)
 size:=fun ty n h=>(lk_app h).elim (a.size ty n) (b.size ty n)
 mixed:=a.mixed
 row1:=fun ty e s y h=>(lk_app h).elim (a.row1 ty e s y) (b.row1 ty e s y)
 meth:=fun ty n g h=>(lk_app h).elim (a.meth ty n g) (b.meth ty n g)
 arr:=fun ty n s h=>(lk_app h).elim (a.arr ty n s) (b.arr ty n s)
theorem env0_ok:Sx.Env.Ok env0 Tryz.prog where
 zero:=by
  intro e cs h
  have hm:=lk_mem h
  simp only [env0,List.mem_cons,Prod.mk.injEq,List.not_mem_nil,or_false] at hm
  rcases hm with ⟨rfl,rfl⟩ | ⟨rfl,rfl⟩
  ·exact ⟨.agg #[.bool false,.int .i64 0,.int .i64 0,.int .i64 0,.slice none 0 0,.slice none 0 0,.int .i64 0,.int .i64 0,.int .i64 0,.int .i64 0,.int .i64 0,.int .i64 0,.string ByteArray.empty,.slice none 0 0,.int .i64 0],by funext w;kernel_rfl,by exact Rels.vals (β:=[]) (ρ:=[]) [.bool false,.int .i64 0,.int .i64 0,.int .i64 0,.slice none 0 0,.slice none 0 0,.int .i64 0,.int .i64 0,.int .i64 0,.int .i64 0,.int .i64 0,.int .i64 0,.string ByteArray.empty,.slice none 0 0,.int .i64 0],by simp [Value.cells,Value.oneCell']⟩
  ·exact ⟨.agg #[.bool false,.int .i64 0,.int .i64 0,.int .i64 0,.slice none 0 0,.slice none 0 0,.int .i64 0,.int .i64 0,.int .i64 0,.int .i64 0,.int .i64 0,.int .i64 0,.string ByteArray.empty,.slice none 0 0,.int .i64 0],by funext w;kernel_rfl,by exact Rels.vals (β:=[]) (ρ:=[]) [.bool false,.int .i64 0,.int .i64 0,.int .i64 0,.slice none 0 0,.slice none 0 0,.int .i64 0,.int .i64 0,.int .i64 0,.int .i64 0,.int .i64 0,.int .i64 0,.string ByteArray.empty,.slice none 0 0,.int .i64 0],by simp [Value.cells,Value.oneCell']⟩
 agg1:=by
  intro ty h
  have hm:=lk_mem h
  simp only [env0,List.mem_cons,Prod.mk.injEq,List.not_mem_nil,or_false] at hm
  rcases hm with ⟨rfl,hn⟩ | ⟨rfl,hn⟩
  ·cases hn
  ·cases hn
 aggN:=by
  intro ty n h
  have hm:=lk_mem h
  simp only [env0,List.mem_cons,Prod.mk.injEq,List.not_mem_nil,or_false] at hm
  rcases hm with ⟨rfl,hn⟩ | ⟨rfl,hn⟩
  ·(cases hn;exact load_agg (fun w=>by kernel_rfl) (by kernel_rfl))
  ·(cases hn;exact load_agg (fun w=>by kernel_rfl) (by kernel_rfl))
 off:=by
  intro s f d h
  have hm:=lk_mem h
  simp only [env0,List.mem_cons,Prod.mk.injEq,List.not_mem_nil,or_false] at hm
  rcases hm with ⟨⟨rfl,rfl⟩,rfl⟩ | ⟨⟨rfl,rfl⟩,rfl⟩ | ⟨⟨rfl,rfl⟩,rfl⟩ | ⟨⟨rfl,rfl⟩,rfl⟩ | ⟨⟨rfl,rfl⟩,rfl⟩ | ⟨⟨rfl,rfl⟩,rfl⟩ | ⟨⟨rfl,rfl⟩,rfl⟩ | ⟨⟨rfl,rfl⟩,rfl⟩ | ⟨⟨rfl,rfl⟩,rfl⟩ | ⟨⟨rfl,rfl⟩,rfl⟩
  ·exact fun a w=>by kernel_rfl
  ·exact fun a w=>by kernel_rfl
  ·exact fun a w=>by kernel_rfl
  ·exact fun a w=>by kernel_rfl
  ·exact fun a w=>by kernel_rfl
  ·exact fun a w=>by kernel_rfl
  ·exact fun a w=>by kernel_rfl
  ·exact fun a w=>by kernel_rfl
  ·exact fun a w=>by kernel_rfl
  ·exact fun a w=>by kernel_rfl
 row:=by intro ty e size bytes h;exact absurd h (by simp [env0,lk])
 str:=by
  intro ty cs places h
  have hm:=lk_mem h
  simp only [env0,List.mem_cons,Prod.mk.injEq,List.not_mem_nil,or_false] at hm
  rcases hm with ⟨rfl,rfl,rfl⟩ | ⟨rfl,rfl,rfl⟩
  ·exact ⟨[.bool false,.int .i64 0,.int .i64 0,.int .i64 0,.slice none 0 0,.slice none 0 0,.int .i64 0,.int .i64 0,.int .i64 0,.int .i64 0,.int .i64 0,.int .i64 0,.string ByteArray.empty,.slice none 0 0,.int .i64 0],Rels.vals (β:=[]) (ρ:=[]) [.bool false,.int .i64 0,.int .i64 0,.int .i64 0,.slice none 0 0,.slice none 0 0,.int .i64 0,.int .i64 0,.int .i64 0,.int .i64 0,.int .i64 0,.int .i64 0,.string ByteArray.empty,.slice none 0 0,.int .i64 0],built Tryz.underlying49 (fun w=>by kernel_rfl) (fun w=>by kernel_rfl)⟩
  ·exact ⟨[.bool false,.int .i64 0,.int .i64 0,.int .i64 0,.slice none 0 0,.slice none 0 0,.int .i64 0,.int .i64 0,.int .i64 0,.int .i64 0,.int .i64 0,.int .i64 0,.string ByteArray.empty,.slice none 0 0,.int .i64 0],Rels.vals (β:=[]) (ρ:=[]) [.bool false,.int .i64 0,.int .i64 0,.int .i64 0,.slice none 0 0,.slice none 0 0,.int .i64 0,.int .i64 0,.int .i64 0,.int .i64 0,.int .i64 0,.int .i64 0,.string ByteArray.empty,.slice none 0 0,.int .i64 0],built Tryz.underlying64 (fun w=>by kernel_rfl) (fun w=>by kernel_rfl)⟩
 strs:=by intro ty u h;exact absurd h (by simp [env0,lk])
 ints:=by intro ty u h;exact absurd h (by simp [env0,lk])
 size:=by
  intro ty n h
  have hm:=lk_mem h
  simp only [env0,List.mem_cons,Prod.mk.injEq,List.not_mem_nil,or_false] at hm
  rcases hm with ⟨rfl,rfl⟩ | ⟨rfl,rfl⟩
  ·exact info_size (by kernel_rfl)
  ·exact info_size (by kernel_rfl)
 mixed:=by kernel_rfl
 row1:=by intro ty e size bytes h;exact absurd h (by simp [env0,lk])
 meth:=by intro ty n g h;cases h
 arr:=by intro ty n size h;cases h
def env:Sx.Env:=app Sxs.env env0
theorem env_ok:Sx.Env.Ok env Tryz.prog:=app_ok Sxs.env_ok env0_ok
end Go.Proofs.YtfhgkkcpkcjbmaaGreatDoor.Sxk
namespace Go.Proofs.YtfhgkkcpkcjbmaaGreatDoor.Sxt
open Go.RowKit Sx Sxk
def env1:Sx.Env:={
 zero:=[(24,[.v (.slice none 0 0)]),(52,[.v (.slice none 0 0)]),(53,[.v (.int .i64 0),.v (.int .i64 0)]),(26,[.v (.int .i64 0),.v (.int .i64 0)]),(56,[.v (.int .i64 0),.v (.int .i64 0),.v (.int .i64 0),.v (.int .i64 0),.v (.int .i64 0),.v (.int .i64 0),.v (.int .i64 0),.v (.int .i64 0),.v (.slice none 0 0),.v (.int .i64 0),.v (.int .i64 0),.v (.slice none 0 0)]),(29,[.v (.int .i64 0),.v (.int .i64 0),.v (.int .i64 0),.v (.int .i64 0),.v (.int .i64 0),.v (.int .i64 0),.v (.int .i64 0),.v (.int .i64 0),.v (.slice none 0 0),.v (.int .i64 0),.v (.int .i64 0),.v (.slice none 0 0)]),(117,[.v (.int .i64 0),.v (.int .i64 0),.v (.int .i64 0),.v (.int .i64 0),.v (.string ByteArray.empty),.v (.int .i64 0),.v (.int .i64 0),.v (.bool false),.v (.int .i64 0),.v (.int .i64 0),.v (.int .i64 0),.v (.slice none 0 0),.v (.slice none 0 0),.v (.int .i64 0),.v (.int .i64 0),.v (.int .i64 0),.v (.int .i64 0),.v (.int .i64 0),.v (.int .i64 0),.v (.string ByteArray.empty),.v (.slice none 0 0),.v (.int .i64 0),.v (.int .i64 0),.v (.int .i64 0),.v (.int .i64 0),.v (.int .i64 0),.v (.int .i64 0),.v (.int .i64 0),.v (.string ByteArray.empty),.v (.slice none 0 0),.v (.int .i64 0),.v (.bool false)]),(149,[.v (.int .i64 0),.v (.int .i64 0),.v (.int .i64 0),.v (.int .i64 0),.v (.string ByteArray.empty),.v (.int .i64 0),.v (.int .i64 0),.v (.bool false),.v (.int .i64 0),.v (.int .i64 0),.v (.int .i64 0),.v (.slice none 0 0),.v (.slice none 0 0),.v (.int .i64 0),.v (.int .i64 0),.v (.int .i64 0),.v (.int .i64 0),.v (.int .i64 0),.v (.int .i64 0),.v (.string ByteArray.empty),.v (.slice none 0 0),.v (.int .i64 0),.v (.int .i64 0),.v (.int .i64 0),.v (.int .i64 0),.v (.int .i64 0),.v (.int .i64 0),.v (.int .i64 0),.v (.string ByteArray.empty),.v (.slice none 0 0),.v (.int .i64 0),.v (.bool false)])]
 agg:=[(24,none),(52,none),(53,some 2),(26,some 2),(56,some 12),(29,some 12),(117,some 32),(149,some 32)]
 off:=[((53,0),0),((53,1),1),((26,0),0),((26,1),1),((56,0),0),((56,1),8),((56,2),9),((56,3),11),((29,0),0),((29,1),8),((29,2),9),((29,3),11),((117,0),0),((117,1),5),((117,2),6),((117,3),7),((117,4),22),((117,5),31),((149,0),0),((149,1),5),((149,2),6),((149,3),7),((149,4),22),((149,5),31)]
 row:=[(24,(3,1,8)),(52,(3,1,8))]
 str:=[(53,([.v (.int .i64 0),.v (.int .i64 0)],[(0,1),(1,1)])),(26,([.v (.int .i64 0),.v (.int .i64 0)],[(0,1),(1,1)])),(56,([.v (.int .i64 0),.v (.int .i64 0),.v (.int .i64 0),.v (.int .i64 0),.v (.int .i64 0),.v (.int .i64 0),.v (.int .i64 0),.v (.int .i64 0),.v (.slice none 0 0),.v (.int .i64 0),.v (.int .i64 0),.v (.slice none 0 0)],[(0,8),(8,1),(9,2),(11,1)])),(29,([.v (.int .i64 0),.v (.int .i64 0),.v (.int .i64 0),.v (.int .i64 0),.v (.int .i64 0),.v (.int .i64 0),.v (.int .i64 0),.v (.int .i64 0),.v (.slice none 0 0),.v (.int .i64 0),.v (.int .i64 0),.v (.slice none 0 0)],[(0,8),(8,1),(9,2),(11,1)])),(117,([.v (.int .i64 0),.v (.int .i64 0),.v (.int .i64 0),.v (.int .i64 0),.v (.string ByteArray.empty),.v (.int .i64 0),.v (.int .i64 0),.v (.bool false),.v (.int .i64 0),.v (.int .i64 0),.v (.int .i64 0),.v (.slice none 0 0),.v (.slice none 0 0),.v (.int .i64 0),.v (.int .i64 0),.v (.int .i64 0),.v (.int .i64 0),.v (.int .i64 0),.v (.int .i64 0),.v (.string ByteArray.empty),.v (.slice none 0 0),.v (.int .i64 0),.v (.int .i64 0),.v (.int .i64 0),.v (.int .i64 0),.v (.int .i64 0),.v (.int .i64 0),.v (.int .i64 0),.v (.string ByteArray.empty),.v (.slice none 0 0),.v (.int .i64 0),.v (.bool false)],[(0,5),(5,1),(6,1),(7,15),(22,9),(31,1)])),(149,([.v (.int .i64 0),.v (.int .i64 0),.v (.int .i64 0),.v (.int .i64 0),.v (.string ByteArray.empty),.v (.int .i64 0),.v (.int .i64 0),.v (.bool false),.v (.int .i64 0),.v (.int .i64 0),.v (.int .i64 0),.v (.slice none 0 0),.v (.slice none 0 0),.v (.int .i64 0),.v (.int .i64 0),.v (.int .i64 0),.v (.int .i64 0),.v (.int .i64 0),.v (.int .i64 0),.v (.string ByteArray.empty),.v (.slice none 0 0),.v (.int .i64 0),.v (.int .i64 0),.v (.int .i64 0),.v (.int .i64 0),.v (.int .i64 0),.v (.int .i64 0),.v (.int .i64 0),.v (.string ByteArray.empty),.v (.slice none 0 0),.v (.int .i64 0),.v (.bool false)],[(0,5),(5,1),(6,1),(7,15),(22,9),(31,1)]))]
 strs:=[]
 ints:=[]
 how:=[]
 meth:=[]
 opens:=[]
 arr:=[] }
theorem env1_ok:Sx.Env.Ok env1 Tryz.prog where
 zero:=by
  intro e cs h
  have hm:=lk_mem h
  simp only [env1,List.mem_cons,Prod.mk.injEq,List.not_mem_nil,or_false] at hm
  rcases hm with ⟨rfl,rfl⟩ | ⟨rfl,rfl⟩ | ⟨rfl,rfl⟩ | ⟨rfl,rfl⟩ | ⟨rfl,rfl⟩ | ⟨rfl,rfl⟩ | ⟨rfl,rfl⟩ | ⟨rfl,rfl⟩
  ·exact ⟨.slice none 0 0,by funext w;kernel_rfl,by exact Rels.vals (β:=[]) (ρ:=[]) [.slice none 0 0],by simp [Value.cells,Value.oneCell']⟩
  ·exact ⟨.slice none 0 0,by funext w;kernel_rfl,by exact Rels.vals (β:=[]) (ρ:=[]) [.slice none 0 0],by simp [Value.cells,Value.oneCell']⟩
  ·exact ⟨.agg #[.int .i64 0,.int .i64 0],by funext w;kernel_rfl,by exact Rels.vals (β:=[]) (ρ:=[]) [.int .i64 0,.int .i64 0],by simp [Value.cells,Value.oneCell']⟩
  ·exact ⟨.agg #[.int .i64 0,.int .i64 0],by funext w;kernel_rfl,by exact Rels.vals (β:=[]) (ρ:=[]) [.int .i64 0,.int .i64 0],by simp [Value.cells,Value.oneCell']⟩
  ·exact ⟨.agg #[.int .i64 0,.int .i64 0,.int .i64 0,.int .i64 0,.int .i64 0,.int .i64 0,.int .i64 0,.int .i64 0,.slice none 0 0,.int .i64 0,.int .i64 0,.slice none 0 0],by funext w;kernel_rfl,by exact Rels.vals (β:=[]) (ρ:=[]) [.int .i64 0,.int .i64 0,.int .i64 0,.int .i64 0,.int .i64 0,.int .i64 0,.int .i64 0,.int .i64 0,.slice none 0 0,.int .i64 0,.int .i64 0,.slice none 0 0],by simp [Value.cells,Value.oneCell']⟩
  ·exact ⟨.agg #[.int .i64 0,.int .i64 0,.int .i64 0,.int .i64 0,.int .i64 0,.int .i64 0,.int .i64 0,.int .i64 0,.slice none 0 0,.int .i64 0,.int .i64 0,.slice none 0 0],by funext w;kernel_rfl,by exact Rels.vals (β:=[]) (ρ:=[]) [.int .i64 0,.int .i64 0,.int .i64 0,.int .i64 0,.int .i64 0,.int .i64 0,.int .i64 0,.int .i64 0,.slice none 0 0,.int .i64 0,.int .i64 0,.slice none 0 0],by simp [Value.cells,Value.oneCell']⟩
  ·exact ⟨.agg #[.int .i64 0,.int .i64 0,.int .i64 0,.int .i64 0,.string ByteArray.empty,.int .i64 0,.int .i64 0,.bool false,.int .i64 0,.int .i64 0,.int .i64 0,.slice none 0 0,.slice none 0 0,.int .i64 0,.int .i64 0,.int .i64 0,.int .i64 0,.int .i64 0,.int .i64 0,.string ByteArray.empty,.slice none 0 0,.int .i64 0,.int .i64 0,.int .i64 0,.int .i64 0,.int .i64 0,.int .i64 0,.int .i64 0,.string ByteArray.empty,.slice none 0 0,.int .i64 0,.bool false],by funext w;kernel_rfl,by exact Rels.vals (β:=[]) (ρ:=[]) [.int .i64 0,.int .i64 0,.int .i64 0,.int .i64 0,.string ByteArray.empty,.int .i64 0,.int .i64 0,.bool false,.int .i64 0,.int .i64 0,.int .i64 0,.slice none 0 0,.slice none 0 0,.int .i64 0,.int .i64 0,.int .i64 0,.int .i64 0,.int .i64 0,.int .i64 0,.string ByteArray.empty,.slice none 0 0,.int .i64 0,.int .i64 0,.int .i64 0,.int .i64 0,.int .i64 0,.int .i64 0,.int .i64 0,.string ByteArray.empty,.slice none 0 0,.int .i64 0,.bool false],by simp [Value.cells,Value.oneCell']⟩
  ·exact ⟨.agg #[.int .i64 0,.int .i64 0,.int .i64 0,.int .i64 0,.string ByteArray.empty,.int .i64 0,.int .i64 0,.bool false,.int .i64 0,.int .i64 0,.int .i64 0,.slice none 0 0,.slice none 0 0,.int .i64 0,.int .i64 0,.int .i64 0,.int .i64 0,.int .i64 0,.int .i64 0,.string ByteArray.empty,.slice none 0 0,.int .i64 0,.int .i64 0,.int .i64 0,.int .i64 0,.int .i64 0,.int .i64 0,.int .i64 0,.string ByteArray.empty,.slice none 0 0,.int .i64 0,.bool false],by funext w;kernel_rfl,by exact Rels.vals (β:=[]) (ρ:=[]) [.int .i64 0,.int .i64 0,.int .i64 0,.int .i64 0,.string ByteArray.empty,.int .i64 0,.int .i64 0,.bool false,.int .i64 0,.int .i64 0,.int .i64 0,.slice none 0 0,.slice none 0 0,.int .i64 0,.int .i64 0,.int .i64 0,.int .i64 0,.int .i64 0,.int .i64 0,.string ByteArray.empty,.slice none 0 0,.int .i64 0,.int .i64 0,.int .i64 0,.int .i64 0,.int .i64 0,.int .i64 0,.int .i64 0,.string ByteArray.empty,.slice none 0 0,.int .i64 0,.bool false],by simp [Value.cells,Value.oneCell']⟩
 agg1:=by
  intro ty h
  have hm:=lk_mem h
  simp only [env1,List.mem_cons,Prod.mk.injEq,List.not_mem_nil,or_false] at hm
  rcases hm with ⟨rfl,hn⟩ | ⟨rfl,hn⟩ | ⟨rfl,hn⟩ | ⟨rfl,hn⟩ | ⟨rfl,hn⟩ | ⟨rfl,hn⟩ | ⟨rfl,hn⟩ | ⟨rfl,hn⟩
  ·exact fun a w=>by kernel_rfl
  ·exact fun a w=>by kernel_rfl
  ·cases hn
  ·cases hn
  ·cases hn
  ·cases hn
  ·cases hn
  ·cases hn
 aggN:=by
  intro ty n h
  have hm:=lk_mem h
  simp only [env1,List.mem_cons,Prod.mk.injEq,List.not_mem_nil,or_false] at hm
  rcases hm with ⟨rfl,hn⟩ | ⟨rfl,hn⟩ | ⟨rfl,hn⟩ | ⟨rfl,hn⟩ | ⟨rfl,hn⟩ | ⟨rfl,hn⟩ | ⟨rfl,hn⟩ | ⟨rfl,hn⟩
  ·cases hn
  ·cases hn
  ·(cases hn;exact load_agg (fun w=>by kernel_rfl) (by kernel_rfl))
  ·(cases hn;exact load_agg (fun w=>by kernel_rfl) (by kernel_rfl))
  ·(cases hn;exact load_agg (fun w=>by kernel_rfl) (by kernel_rfl))
  ·(cases hn;exact load_agg (fun w=>by kernel_rfl) (by kernel_rfl))
  ·(cases hn;exact load_agg (fun w=>by kernel_rfl) (by kernel_rfl))
  ·(cases hn;exact load_agg (fun w=>by kernel_rfl) (by kernel_rfl))
 off:=by
  intro s f d h
  have hm:=lk_mem h
  simp only [env1,List.mem_cons,Prod.mk.injEq,List.not_mem_nil,or_false] at hm
  rcases hm with ⟨⟨rfl,rfl⟩,rfl⟩ | ⟨⟨rfl,rfl⟩,rfl⟩ | ⟨⟨rfl,rfl⟩,rfl⟩ | ⟨⟨rfl,rfl⟩,rfl⟩ | ⟨⟨rfl,rfl⟩,rfl⟩ | ⟨⟨rfl,rfl⟩,rfl⟩ | ⟨⟨rfl,rfl⟩,rfl⟩ | ⟨⟨rfl,rfl⟩,rfl⟩ | ⟨⟨rfl,rfl⟩,rfl⟩ | ⟨⟨rfl,rfl⟩,rfl⟩ | ⟨⟨rfl,rfl⟩,rfl⟩ | ⟨⟨rfl,rfl⟩,rfl⟩ | ⟨⟨rfl,rfl⟩,rfl⟩ | ⟨⟨rfl,rfl⟩,rfl⟩ | ⟨⟨rfl,rfl⟩,rfl⟩ | ⟨⟨rfl,rfl⟩,rfl⟩ | ⟨⟨rfl,rfl⟩,rfl⟩ | ⟨⟨rfl,rfl⟩,rfl⟩ | ⟨⟨rfl,rfl⟩,rfl⟩ | ⟨⟨rfl,rfl⟩,rfl⟩ | ⟨⟨rfl,rfl⟩,rfl⟩ | ⟨⟨rfl,rfl⟩,rfl⟩ | ⟨⟨rfl,rfl⟩,rfl⟩ | ⟨⟨rfl,rfl⟩,rfl⟩
  ·exact fun a w=>by kernel_rfl
  ·exact fun a w=>by kernel_rfl
  ·exact fun a w=>by kernel_rfl
  ·exact fun a w=>by kernel_rfl
  ·exact fun a w=>by kernel_rfl
  ·exact fun a w=>by kernel_rfl
  ·exact fun a w=>by kernel_rfl
  ·exact fun a w=>by kernel_rfl
  ·exact fun a w=>by kernel_rfl
  ·exact fun a w=>by kernel_rfl
  ·exact fun a w=>by kernel_rfl
  ·exact fun a w=>by kernel_rfl
  ·exact fun a w=>by kernel_rfl
  ·exact fun a w=>by kernel_rfl
  ·exact fun a w=>by kernel_rfl
  ·exact fun a w=>by kernel_rfl
  ·exact fun a w=>by kernel_rfl
  ·exact fun a w=>by kernel_rfl
  ·exact fun a w=>by kernel_rfl
  ·exact fun a w=>by kernel_rfl
  ·exact fun a w=>by kernel_rfl
  ·exact fun a w=>by kernel_rfl
  ·exact fun a w=>by kernel_rfl
  ·exact fun a w=>by kernel_rfl
 row:=by
  intro ty e size bytes h
  have hm:=lk_mem h
  simp only [env1,List.mem_cons,Prod.mk.injEq,List.not_mem_nil,or_false] at hm
  rcases hm with ⟨rfl,rfl,rfl,rfl⟩ | ⟨rfl,rfl,rfl,rfl⟩
  ·exact ⟨by kernel_rfl,info_row (by kernel_rfl) rfl (by decide)⟩
  ·exact ⟨by kernel_rfl,info_row (by kernel_rfl) rfl (by decide)⟩
 str:=by
  intro ty cs places h
  have hm:=lk_mem h
  simp only [env1,List.mem_cons,Prod.mk.injEq,List.not_mem_nil,or_false] at hm
  rcases hm with ⟨rfl,rfl,rfl⟩ | ⟨rfl,rfl,rfl⟩ | ⟨rfl,rfl,rfl⟩ | ⟨rfl,rfl,rfl⟩ | ⟨rfl,rfl,rfl⟩ | ⟨rfl,rfl,rfl⟩
  ·exact ⟨[.int .i64 0,.int .i64 0],Rels.vals (β:=[]) (ρ:=[]) [.int .i64 0,.int .i64 0],built Tryz.underlying53 (fun w=>by kernel_rfl) (fun w=>by kernel_rfl)⟩
  ·exact ⟨[.int .i64 0,.int .i64 0],Rels.vals (β:=[]) (ρ:=[]) [.int .i64 0,.int .i64 0],built Tryz.underlying26 (fun w=>by kernel_rfl) (fun w=>by kernel_rfl)⟩
  ·exact ⟨[.int .i64 0,.int .i64 0,.int .i64 0,.int .i64 0,.int .i64 0,.int .i64 0,.int .i64 0,.int .i64 0,.slice none 0 0,.int .i64 0,.int .i64 0,.slice none 0 0],Rels.vals (β:=[]) (ρ:=[]) [.int .i64 0,.int .i64 0,.int .i64 0,.int .i64 0,.int .i64 0,.int .i64 0,.int .i64 0,.int .i64 0,.slice none 0 0,.int .i64 0,.int .i64 0,.slice none 0 0],built Tryz.underlying56 (fun w=>by kernel_rfl) (fun w=>by kernel_rfl)⟩
  ·exact ⟨[.int .i64 0,.int .i64 0,.int .i64 0,.int .i64 0,.int .i64 0,.int .i64 0,.int .i64 0,.int .i64 0,.slice none 0 0,.int .i64 0,.int .i64 0,.slice none 0 0],Rels.vals (β:=[]) (ρ:=[]) [.int .i64 0,.int .i64 0,.int .i64 0,.int .i64 0,.int .i64 0,.int .i64 0,.int .i64 0,.int .i64 0,.slice none 0 0,.int .i64 0,.int .i64 0,.slice none 0 0],built Tryz.underlying29 (fun w=>by kernel_rfl) (fun w=>by kernel_rfl)⟩
  ·exact ⟨[.int .i64 0,.int .i64 0,.int .i64 0,.int .i64 0,.string ByteArray.empty,.int .i64 0,.int .i64 0,.bool false,.int .i64 0,.int .i64 0,.int .i64 0,.slice none 0 0,.slice none 0 0,.int .i64 0,.int .i64 0,.int .i64 0,.int .i64 0,.int .i64 0,.int .i64 0,.string ByteArray.empty,.slice none 0 0,.int .i64 0,.int .i64 0,.int .i64 0,.int .i64 0,.int .i64 0,.int .i64 0,.int .i64 0,.string ByteArray.empty,.slice none 0 0,.int .i64 0,.bool false],Rels.vals (β:=[]) (ρ:=[]) [.int .i64 0,.int .i64 0,.int .i64 0,.int .i64 0,.string ByteArray.empty,.int .i64 0,.int .i64 0,.bool false,.int .i64 0,.int .i64 0,.int .i64 0,.slice none 0 0,.slice none 0 0,.int .i64 0,.int .i64 0,.int .i64 0,.int .i64 0,.int .i64 0,.int .i64 0,.string ByteArray.empty,.slice none 0 0,.int .i64 0,.int .i64 0,.int .i64 0,.int .i64 0,.int .i64 0,.int .i64 0,.int .i64 0,.string ByteArray.empty,.slice none 0 0,.int .i64 0,.bool false],built Tryz.underlying117 (fun w=>by kernel_rfl) (fun w=>by kernel_rfl)⟩
  ·exact ⟨[.int .i64 0,.int .i64 0,.int .i64 0,.int .i64 0,.string ByteArray.empty,.int .i64 0,.int .i64 0,.bool false,.int .i64 0,.int .i64 0,.int .i64 0,.slice none 0 0,.slice none 0 0,.int .i64 0,.int .i64 0,.int .i64 0,.int .i64 0,.int .i64 0,.int .i64 0,.string ByteArray.empty,.slice none 0 0,.int .i64 0,.int .i64 0,.int .i64 0,.int .i64 0,.int .i64 0,.int .i64 0,.int .i64 0,.string ByteArray.empty,.slice none 0 0,.int .i64 0,.bool false],Rels.vals (β:=[]) (ρ:=[]) [.int .i64 0,.int .i64 0,.int .i64 0,.int .i64 0,.string ByteArray.empty,.int .i64 0,.int .i64 0,.bool false,.int .i64 0,.int .i64 0,.int .i64 0,.slice none 0 0,.slice none 0 0,.int .i64 0,.int .i64 0,.int .i64 0,.int .i64 0,.int .i64 0,.int .i64 0,.string ByteArray.empty,.slice none 0 0,.int .i64 0,.int .i64 0,.int .i64 0,.int .i64 0,.int .i64 0,.int .i64 0,.int .i64 0,.string ByteArray.empty,.slice none 0 0,.int .i64 0,.bool false],built Tryz.underlying149 (fun w=>by kernel_rfl) (fun w=>by kernel_rfl)⟩
 strs:=by intro ty u h;exact absurd h (by simp [env1,lk])
 ints:=by intro ty u h;exact absurd h (by simp [env1,lk])
 size:=by
  intro ty n h
  have hm:=lk_mem h
  simp only [env1,List.mem_cons,Prod.mk.injEq,List.not_mem_nil,or_false] at hm
  rcases hm with ⟨rfl,rfl⟩ | ⟨rfl,rfl⟩ | ⟨rfl,rfl⟩ | ⟨rfl,rfl⟩ | ⟨rfl,rfl⟩ | ⟨rfl,rfl⟩ | ⟨rfl,rfl⟩ | ⟨rfl,rfl⟩
  ·exact info_size (by kernel_rfl)
  ·exact info_size (by kernel_rfl)
  ·exact info_size (by kernel_rfl)
  ·exact info_size (by kernel_rfl)
  ·exact info_size (by kernel_rfl)
  ·exact info_size (by kernel_rfl)
  ·exact info_size (by kernel_rfl)
  ·exact info_size (by kernel_rfl)
 mixed:=by kernel_rfl
 row1:=by
  intro ty e size bytes h
  have hm:=lk_mem h
  simp only [env1,List.mem_cons,Prod.mk.injEq,List.not_mem_nil,or_false] at hm
  rcases hm with ⟨rfl,rfl,rfl,rfl⟩ | ⟨rfl,rfl,rfl,rfl⟩
  ·exact row_one (by kernel_rfl)
  ·exact row_one (by kernel_rfl)
 meth:=by intro ty n g h;cases h
 arr:=by intro ty n size h;cases h
def env:Sx.Env:=Sxk.app Sxk.env env1
theorem env_ok:Sx.Env.Ok env Tryz.prog:=app_ok Sxk.env_ok env1_ok
end Go.Proofs.YtfhgkkcpkcjbmaaGreatDoor.Sxt
namespace Go.Proofs.YtfhgkkcpkcjbmaaGreatDoor.Sxe
open Go.RowKit Sx Sxk
def env1:Sx.Env:={
 zero:=[(51,[.v (.int .i64 0),.v (.int .i64 0),.v (.int .i64 0),.v (.int .i64 0),.v (.int .i64 0),.v (.int .i64 0),.v (.int .i64 0),.v (.string ByteArray.empty),.v (.bool false),.v (.int .i64 0),.v (.int .i64 0),.v (.int .i64 0),.v (.slice none 0 0),.v (.slice none 0 0),.v (.int .i64 0),.v (.int .i64 0),.v (.int .i64 0),.v (.int .i64 0),.v (.int .i64 0),.v (.int .i64 0),.v (.string ByteArray.empty),.v (.slice none 0 0),.v (.int .i64 0)]),(66,[.v (.int .i64 0),.v (.int .i64 0),.v (.int .i64 0),.v (.int .i64 0),.v (.int .i64 0),.v (.int .i64 0),.v (.int .i64 0),.v (.string ByteArray.empty),.v (.bool false),.v (.int .i64 0),.v (.int .i64 0),.v (.int .i64 0),.v (.slice none 0 0),.v (.slice none 0 0),.v (.int .i64 0),.v (.int .i64 0),.v (.int .i64 0),.v (.int .i64 0),.v (.int .i64 0),.v (.int .i64 0),.v (.string ByteArray.empty),.v (.slice none 0 0),.v (.int .i64 0)])]
 agg:=[(51,some 23),(66,some 23)]
 off:=[((51,0),0),((51,1),1),((51,2),2),((51,3),8),((66,0),0),((66,1),1),((66,2),2),((66,3),8)]
 row:=[]
 str:=[(51,([.v (.int .i64 0),.v (.int .i64 0),.v (.int .i64 0),.v (.int .i64 0),.v (.int .i64 0),.v (.int .i64 0),.v (.int .i64 0),.v (.string ByteArray.empty),.v (.bool false),.v (.int .i64 0),.v (.int .i64 0),.v (.int .i64 0),.v (.slice none 0 0),.v (.slice none 0 0),.v (.int .i64 0),.v (.int .i64 0),.v (.int .i64 0),.v (.int .i64 0),.v (.int .i64 0),.v (.int .i64 0),.v (.string ByteArray.empty),.v (.slice none 0 0),.v (.int .i64 0)],[(0,1),(1,1),(2,6),(8,15)])),(66,([.v (.int .i64 0),.v (.int .i64 0),.v (.int .i64 0),.v (.int .i64 0),.v (.int .i64 0),.v (.int .i64 0),.v (.int .i64 0),.v (.string ByteArray.empty),.v (.bool false),.v (.int .i64 0),.v (.int .i64 0),.v (.int .i64 0),.v (.slice none 0 0),.v (.slice none 0 0),.v (.int .i64 0),.v (.int .i64 0),.v (.int .i64 0),.v (.int .i64 0),.v (.int .i64 0),.v (.int .i64 0),.v (.string ByteArray.empty),.v (.slice none 0 0),.v (.int .i64 0)],[(0,1),(1,1),(2,6),(8,15)]))]
 strs:=[]
 ints:=[]
 how:=[]
 meth:=[]
 opens:=[]
 arr:=[] }
theorem env1_ok:Sx.Env.Ok env1 Tryz.prog where
 zero:=by
  intro e cs h
  have hm:=lk_mem h
  simp only [env1,List.mem_cons,Prod.mk.injEq,List.not_mem_nil,or_false] at hm
  rcases hm with ⟨rfl,rfl⟩ | ⟨rfl,rfl⟩
  ·exact ⟨.agg #[.int .i64 0,.int .i64 0,.int .i64 0,.int .i64 0,.int .i64 0,.int .i64 0,.int .i64 0,.string ByteArray.empty,.bool false,.int .i64 0,.int .i64 0,.int .i64 0,.slice none 0 0,.slice none 0 0,.int .i64 0,.int .i64 0,.int .i64 0,.int .i64 0,.int .i64 0,.int .i64 0,.string ByteArray.empty,.slice none 0 0,.int .i64 0],by funext w;kernel_rfl,by exact Rels.vals (β:=[]) (ρ:=[]) [.int .i64 0,.int .i64 0,.int .i64 0,.int .i64 0,.int .i64 0,.int .i64 0,.int .i64 0,.string ByteArray.empty,.bool false,.int .i64 0,.int .i64 0,.int .i64 0,.slice none 0 0,.slice none 0 0,.int .i64 0,.int .i64 0,.int .i64 0,.int .i64 0,.int .i64 0,.int .i64 0,.string ByteArray.empty,.slice none 0 0,.int .i64 0],by simp [Value.cells,Value.oneCell']⟩
  ·exact ⟨.agg #[.int .i64 0,.int .i64 0,.int .i64 0,.int .i64 0,.int .i64 0,.int .i64 0,.int .i64 0,.string ByteArray.empty,.bool false,.int .i64 0,.int .i64 0,.int .i64 0,.slice none 0 0,.slice none 0 0,.int .i64 0,.int .i64 0,.int .i64 0,.int .i64 0,.int .i64 0,.int .i64 0,.string ByteArray.empty,.slice none 0 0,.int .i64 0],by funext w;kernel_rfl,by exact Rels.vals (β:=[]) (ρ:=[]) [.int .i64 0,.int .i64 0,.int .i64 0,.int .i64 0,.int .i64 0,.int .i64 0,.int .i64 0,.string ByteArray.empty,.bool false,.int .i64 0,.int .i64 0,.int .i64 0,.slice none 0 0,.slice none 0 0,.int .i64 0,.int .i64 0,.int .i64 0,.int .i64 0,.int .i64 0,.int .i64 0,.string ByteArray.empty,.slice none 0 0,.int .i64 0],by simp [Value.cells,Value.oneCell']⟩
 agg1:=by
  intro ty h
  have hm:=lk_mem h
  simp only [env1,List.mem_cons,Prod.mk.injEq,List.not_mem_nil,or_false] at hm
  rcases hm with ⟨rfl,hn⟩ | ⟨rfl,hn⟩
  ·cases hn
  ·cases hn
 aggN:=by
  intro ty n h
  have hm:=lk_mem h
  simp only [env1,List.mem_cons,Prod.mk.injEq,List.not_mem_nil,or_false] at hm
  rcases hm with ⟨rfl,hn⟩ | ⟨rfl,hn⟩
  ·(cases hn;exact load_agg (fun w=>by kernel_rfl) (by kernel_rfl))
  ·(cases hn;exact load_agg (fun w=>by kernel_rfl) (by kernel_rfl))
 off:=by
  intro s f d h
  have hm:=lk_mem h
  simp only [env1,List.mem_cons,Prod.mk.injEq,List.not_mem_nil,or_false] at hm
  rcases hm with ⟨⟨rfl,rfl⟩,rfl⟩ | ⟨⟨rfl,rfl⟩,rfl⟩ | ⟨⟨rfl,rfl⟩,rfl⟩ | ⟨⟨rfl,rfl⟩,rfl⟩ | ⟨⟨rfl,rfl⟩,rfl⟩ | ⟨⟨rfl,rfl⟩,rfl⟩ | ⟨⟨rfl,rfl⟩,rfl⟩ | ⟨⟨rfl,rfl⟩,rfl⟩
  ·exact fun a w=>by kernel_rfl
  ·exact fun a w=>by kernel_rfl
  ·exact fun a w=>by kernel_rfl
  ·exact fun a w=>by kernel_rfl
  ·exact fun a w=>by kernel_rfl
  ·exact fun a w=>by kernel_rfl
  ·exact fun a w=>by kernel_rfl
  ·exact fun a w=>by kernel_rfl
 row:=by intro ty e size bytes h;exact absurd h (by simp [env1,lk])
 str:=by
  intro ty cs places h
  have hm:=lk_mem h
  simp only [env1,List.mem_cons,Prod.mk.injEq,List.not_mem_nil,or_false] at hm
  rcases hm with ⟨rfl,rfl,rfl⟩ | ⟨rfl,rfl,rfl⟩
  ·exact ⟨[.int .i64 0,.int .i64 0,.int .i64 0,.int .i64 0,.int .i64 0,.int .i64 0,.int .i64 0,.string ByteArray.empty,.bool false,.int .i64 0,.int .i64 0,.int .i64 0,.slice none 0 0,.slice none 0 0,.int .i64 0,.int .i64 0,.int .i64 0,.int .i64 0,.int .i64 0,.int .i64 0,.string ByteArray.empty,.slice none 0 0,.int .i64 0],Rels.vals (β:=[]) (ρ:=[]) [.int .i64 0,.int .i64 0,.int .i64 0,.int .i64 0,.int .i64 0,.int .i64 0,.int .i64 0,.string ByteArray.empty,.bool false,.int .i64 0,.int .i64 0,.int .i64 0,.slice none 0 0,.slice none 0 0,.int .i64 0,.int .i64 0,.int .i64 0,.int .i64 0,.int .i64 0,.int .i64 0,.string ByteArray.empty,.slice none 0 0,.int .i64 0],built Tryz.underlying51 (fun w=>by kernel_rfl) (fun w=>by kernel_rfl)⟩
  ·exact ⟨[.int .i64 0,.int .i64 0,.int .i64 0,.int .i64 0,.int .i64 0,.int .i64 0,.int .i64 0,.string ByteArray.empty,.bool false,.int .i64 0,.int .i64 0,.int .i64 0,.slice none 0 0,.slice none 0 0,.int .i64 0,.int .i64 0,.int .i64 0,.int .i64 0,.int .i64 0,.int .i64 0,.string ByteArray.empty,.slice none 0 0,.int .i64 0],Rels.vals (β:=[]) (ρ:=[]) [.int .i64 0,.int .i64 0,.int .i64 0,.int .i64 0,.int .i64 0,.int .i64 0,.int .i64 0,.string ByteArray.empty,.bool false,.int .i64 0,.int .i64 0,.int .i64 0,.slice none 0 0,.slice none 0 0,.int .i64 0,.int .i64 0,.int .i64 0,.int .i64 0,.int .i64 0,.int .i64 0,.string ByteArray.empty,.slice none 0 0,.int .i64 0],built Tryz.underlying66 (fun w=>by kernel_rfl) (fun w=>by kernel_rfl)⟩
 strs:=by intro ty u h;exact absurd h (by simp [env1,lk])
 ints:=by intro ty u h;exact absurd h (by simp [env1,lk])
 size:=by
  intro ty n h
  have hm:=lk_mem h
  simp only [env1,List.mem_cons,Prod.mk.injEq,List.not_mem_nil,or_false] at hm
  rcases hm with ⟨rfl,rfl⟩ | ⟨rfl,rfl⟩
  ·exact info_size (by kernel_rfl)
  ·exact info_size (by kernel_rfl)
 mixed:=by kernel_rfl
 row1:=by intro ty e size bytes h;exact absurd h (by simp [env1,lk])
 meth:=by intro ty n g h;cases h
 arr:=by intro ty n size h;cases h
def env:Sx.Env:=Sxk.app Sxt.env env1
theorem env_ok:Sx.Env.Ok env Tryz.prog:=app_ok Sxt.env_ok env1_ok
end Go.Proofs.YtfhgkkcpkcjbmaaGreatDoor.Sxe
namespace Go.Proofs.YtfhgkkcpkcjbmaaGreatDoor.Sxu
open Go.RowKit Sx Sxk
def env1:Sx.Env:={
 zero:=[(180,[.v (.nilFunc)]),(181,[.v (.nilFunc),.v (.nilFunc),.v (.nilFunc),.v (.nilFunc),.v (.nilFunc),.v (.nilFunc)])]
 agg:=[(180,none),(181,some 6)]
 off:=[]
 row:=[]
 str:=[]
 strs:=[]
 ints:=[]
 how:=[]
 meth:=[]
 opens:=[]
 arr:=[(181,(6,1))] }
theorem env1_ok:Sx.Env.Ok env1 Tryz.prog where
 zero:=by
  intro e cs h
  have hm:=lk_mem h
  simp only [env1,List.mem_cons,Prod.mk.injEq,List.not_mem_nil,or_false] at hm
  rcases hm with ⟨rfl,rfl⟩ | ⟨rfl,rfl⟩
  ·exact ⟨.nilFunc,by funext w;kernel_rfl,by exact Rels.vals (β:=[]) (ρ:=[]) [.nilFunc],by simp [Value.cells,Value.oneCell']⟩
  ·exact ⟨.agg #[.nilFunc,.nilFunc,.nilFunc,.nilFunc,.nilFunc,.nilFunc],by funext w;kernel_rfl,by exact Rels.vals (β:=[]) (ρ:=[]) [.nilFunc,.nilFunc,.nilFunc,.nilFunc,.nilFunc,.nilFunc],by simp [Value.cells,Value.oneCell']⟩
 agg1:=by
  intro ty h
  have hm:=lk_mem h
  simp only [env1,List.mem_cons,Prod.mk.injEq,List.not_mem_nil,or_false] at hm
  rcases hm with ⟨rfl,hn⟩ | ⟨rfl,hn⟩
  ·exact fun a w=>by kernel_rfl
  ·cases hn
 aggN:=by
  intro ty n h
  have hm:=lk_mem h
  simp only [env1,List.mem_cons,Prod.mk.injEq,List.not_mem_nil,or_false] at hm
  rcases hm with ⟨rfl,hn⟩ | ⟨rfl,hn⟩
  ·cases hn
  ·(cases hn;exact load_agg (fun w=>by kernel_rfl) (by kernel_rfl))
 off:=by intro s f d h;exact absurd h (by simp [env1,lk])
 row:=by intro ty e size bytes h;exact absurd h (by simp [env1,lk])
 str:=by intro ty cs places h;exact absurd h (by simp [env1,lk])
 strs:=by intro ty u h;exact absurd h (by simp [env1,lk])
 ints:=by intro ty u h;exact absurd h (by simp [env1,lk])
 size:=by
  intro ty n h
  have hm:=lk_mem h
  simp only [env1,List.mem_cons,Prod.mk.injEq,List.not_mem_nil,or_false] at hm
  rcases hm with ⟨rfl,rfl⟩ | ⟨rfl,rfl⟩
  ·exact info_size (by kernel_rfl)
  ·exact info_size (by kernel_rfl)
 mixed:=by kernel_rfl
 row1:=by intro ty e size bytes h;exact absurd h (by simp [env1,lk])
 meth:=by intro ty n g h;cases h
 arr:=by
  intro ty n size h
  have hm:=lk_mem h
  simp only [env1,List.mem_cons,Prod.mk.injEq,List.not_mem_nil,or_false] at hm
  rcases hm with ⟨rfl,rfl,rfl⟩
  ·exact array_at Tryz.underlying181 (by kernel_rfl)
def env0:Sx.Env:=Sxk.app Sxt.env env1
theorem env0_ok:Sx.Env.Ok env0 Tryz.prog:=app_ok Sxt.env_ok env1_ok
def env:Sx.Env:={ env0 with str:=(181,([.v .nilFunc,.v .nilFunc,.v .nilFunc,.v .nilFunc,.v .nilFunc,.v .nilFunc],[(0,1),(1,1),(2,1),(3,1),(4,1),(5,1)]))::env0.str }
theorem env_ok:Sx.Env.Ok env Tryz.prog:=
 Sx.Env.Ok.strA env0_ok 181 [.v .nilFunc,.v .nilFunc,.v .nilFunc,.v .nilFunc,.v .nilFunc,.v .nilFunc] [(0,1),(1,1),(2,1),(3,1),(4,1),(5,1)] [.nilFunc,.nilFunc,.nilFunc,.nilFunc,.nilFunc,.nilFunc] (Rels.vals [.nilFunc,.nilFunc,.nilFunc,.nilFunc,.nilFunc,.nilFunc]) (built_array (n:=6) (s:=1) Tryz.underlying181 (fun w=>by kernel_rfl) (fun w=>by kernel_rfl) (fun i q h=>by
  match i,h with
  | 0,h=>cases h;rfl
  | 1,h=>cases h;rfl
  | 2,h=>cases h;rfl
  | 3,h=>cases h;rfl
  | 4,h=>cases h;rfl
  | 5,h=>cases h;rfl
  | i+6,h=>simp [nth] at h))
end Go.Proofs.YtfhgkkcpkcjbmaaGreatDoor.Sxu
