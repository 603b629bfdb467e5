/- The table of types that a law of evictors knows. -/
import Derived.Test.YtfhgkkcpkcjbmaaGreatDoorKEnvL
import Derived.Test.YtfhgkkcpkcjbmaaGreatDoorKSxMM
import Derived.Test.YtfhgkkcpkcjbmaaGreatDoorChecked
set_option linter.all false
set_option maxHeartbeats 4000000
set_option maxRecDepth 100000
namespace Go.Proofs.YtfhgkkcpkcjbmaaGreatDoor.Sxe3
open Go.RowKit Sx Sxk
def env1:Sx.Env:={
 zero:=[(76,[.v (.int .i64 0),.v (.int .i64 0),.v (.int .i64 0)])]
 agg:=[(76,some 3)]
 off:=[]
 row:=[]
 str:=[]
 strs:=[]
 ints:=[]
 how:=[]
 meth:=[]
 opens:=[]
 arr:=[(76,(3,1))] }
theorem env1_ok:Sx.Env.Ok env1 Tryz.prog where
 zero:=by
  intro e cs h
  have hm:=lk_mem h
  simp only [env1,List.mem_cons,Prod.mk.injEq,List.not_mem_nil,or_false] at hm
  rcases hm with ⟨rfl,rfl⟩
  ·exact ⟨.agg #[.int .i64 0,.int .i64 0,.int .i64 0],by funext w;kernel_rfl,by exact Rels.vals (β:=[]) (ρ:=[]) [.int .i64 0,.int .i64 0,.int .i64 0],by simp [Value.cells,Value.oneCell']⟩
 agg1:=by
  intro ty h
  have hm:=lk_mem h
  simp only [env1,List.mem_cons,Prod.mk.injEq,List.not_mem_nil,or_false] at hm
  rcases hm with ⟨rfl,hn⟩
  ·cases hn
 aggN:=by
  intro ty n h
  have hm:=lk_mem h
  simp only [env1,List.mem_cons,Prod.mk.injEq,List.not_mem_nil,or_false] at hm
  rcases hm with ⟨rfl,hn⟩
  ·(cases hn;exact load_agg (fun w=>by kernel_rfl) (by kernel_rfl))
 off:=by intro s f d h;exact absurd h (by simp [env1,lk])
 row:=by intro ty e size bytes h;exact absurd h (by simp [env1,lk])
 str:=by intro ty cs places h;exact absurd h (by simp [env1,lk])
 strs:=by intro ty u h;exact absurd h (by simp [env1,lk])
 ints:=by intro ty u h;exact absurd h (by simp [env1,lk])
 size:=by
  intro ty n h
  have hm:=lk_mem h
  simp only [env1,List.mem_cons,Prod.mk.injEq,List.not_mem_nil,or_false] at hm
  rcases hm with ⟨rfl,rfl⟩
  ·exact info_size (by kernel_rfl)
 mixed:=by kernel_rfl
 row1:=by intro ty e size bytes h;exact absurd h (by simp [env1,lk])
 meth:=by intro ty n g h;cases h
 arr:=by
  intro ty n size h
  have hm:=lk_mem h
  simp only [env1,List.mem_cons,Prod.mk.injEq,List.not_mem_nil,or_false] at hm
  rcases hm with ⟨rfl,rfl,rfl⟩
  ·exact array_at Tryz.underlying76 (by kernel_rfl)
def env:Sx.Env:=Sxk.app Sxe.env env1
theorem env_ok:Sx.Env.Ok env Tryz.prog:=app_ok Sxe.env_ok env1_ok
end Go.Proofs.YtfhgkkcpkcjbmaaGreatDoor.Sxe3
