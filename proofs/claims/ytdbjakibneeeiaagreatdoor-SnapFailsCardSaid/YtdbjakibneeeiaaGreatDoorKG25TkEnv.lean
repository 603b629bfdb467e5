/- The table of types. -/
import Derived.Test.YtdbjakibneeeiaaGreatDoorKG3SxB
import Derived.Test.YtdbjakibneeeiaaGreatDoorChecked
set_option linter.all false
set_option maxHeartbeats 4000000
set_option maxRecDepth 100000
namespace Go.Proofs.YtdbjakibneeeiaaGreatDoor.gI
open Go.RowKit Sx
def rN:List (Nat×Nat)→Nat→Nat→Bool
 | [],_,_=>true
 | (a,b)::l,s,k=>(a==k*s&&b==s)&&rN l s (k+1)
def tP {s:Nat}:∀{l:List (Nat×Nat)} {k:Nat},rN l s k=true→∀i q,nth l i=some q→q=((k+i)*s,s)
 | [],_,_,i,q,h=>by cases i <;> cases h
 | (a,b)::l,k,hp,i,q,h=>by
  simp only [rN,Bool.and_eq_true,beq_iff_eq] at hp
  cases i with
  | zero=>
   have h:some (a,b)=some q:=h
   cases h
   rw [hp.1.1,hp.1.2,Nat.add_zero]
  | succ i=>
   have:=tP hp.2 i q h
   rw [this,Nat.add_assoc,Nat.add_comm 1 i]
def jR {s:Nat} {l:List (Nat×Nat)} (h:rN l s 0=true):∀i q,nth l i=some q→q=(i*s,s):=fun i q hq=>by
 have:=tP h i q hq
 rwa [Nat.zero_add] at this
abbrev i0:T:=.v (.int .i64 0)
abbrev n0:T:=.v (.slice none 0 0)
abbrev e0:T:=.v (.string ByteArray.empty)
abbrev b0:T:=.v (.bool false)
def env:Sx.Env:={
 zero:=[(3,[i0]),(4,[b0]),(9,[e0]),(22,[n0]),(26,[i0,i0,i0,i0,i0,e0]),(27,[n0]),(90,[i0,i0,n0]),(69,[n0]),(84,[n0,i0]),(23,[n0]),(24,[i0]),(29,[i0,i0,i0,i0,i0,i0,e0,n0,i0]),(31,[i0,i0,i0,i0,n0,n0,i0,i0,i0,i0,i0,i0,e0,n0,i0]),(32,[i0,i0]),(34,[i0,i0,i0,i0,i0,i0,i0,i0]),(36,[i0,i0]),(38,[i0,i0,i0,i0,i0,i0,i0,i0,n0,i0,i0,n0]),(39,[.v (.nilFunc)]),(40,[.v (.nilFunc)]),(42,[n0]),(43,[i0,i0]),(112,[n0,i0]),(44,[n0]),(46,[i0,i0,i0,i0,i0,i0,i0,i0,n0,i0,i0,n0]),(47,[.v (.nilFunc)]),(48,[i0,i0,i0,i0,i0,i0,e0,n0,i0]),(50,[i0,i0,i0,i0,n0,n0,i0,i0,i0,i0,i0,i0,e0,n0,i0]),(53,[.v (.nilFunc)]),(55,[.v (.nilFunc)]),(59,[.v (.nilFunc)]),(60,[.v (.nilFunc)]),(61,[.v (.nilFunc)]),(62,[.v (.nilFunc)]),(63,[.v (.nilFunc)]),(65,[.v (.nilFunc)]),(67,[.v (.nilFunc)]),(68,[.v (.nilFunc)]),(70,[.v (.nilFunc)]),(149,[i0,i0,i0,i0,i0,i0,e0,i0]),(71,[n0]),(75,[i0,i0,i0,i0,e0]),(77,[.v (.nilFunc)]),(78,[.v (.nilFunc)]),(79,[.v (.nilFunc)]),(80,[i0,i0,i0]),(81,[.v (.nilFunc)]),(92,[b0,i0,i0,i0,n0,n0,i0,i0,i0,i0,i0,i0,e0,n0,i0]),(94,[i0,i0,i0,i0,e0,i0,i0,b0,i0,i0,i0,n0,n0,i0,i0,i0,i0,i0,i0,e0,n0,i0,i0,i0,i0,i0,i0,i0,e0,n0,i0,b0]),(98,[.v (.nilFunc)]),(100,[.v (.nilFunc)]),(105,[.v (.nilFunc)]),(106,[.v (.nilFunc)]),(111,[.v (.nilFunc)]),(120,[.v (.nilFunc)]),(123,[i0,i0,i0,i0,i0,i0,i0,i0,n0,i0,i0,i0,i0,i0,e0]),(125,[.v (.nilFunc)]),(142,[.v (.nilFunc)]),(143,[.v (.nilFunc),.v (.nilFunc),.v (.nilFunc),.v (.nilFunc),.v (.nilFunc),.v (.nilFunc)]),(154,[n0]),(167,[.v (.nilFunc)]),(5,[.v (.int .u8 0)]),(169,[n0]),(204,[i0,i0,i0,i0,i0]),(225,[i0,n0]),(220,[n0]),(256,[n0])]
 agg:=[(3,none),(4,none),(9,none),(22,none),(26,some 6),(27,none),(90,some 3),(69,none),(84,some 2),(23,none),(24,none),(29,some 9),(31,some 15),(32,some 2),(34,some 8),(36,some 2),(38,some 12),(39,none),(40,none),(42,none),(43,some 2),(112,some 2),(44,none),(46,some 12),(47,none),(48,some 9),(50,some 15),(53,none),(55,none),(59,none),(60,none),(61,none),(62,none),(63,none),(65,none),(67,none),(68,none),(70,none),(149,some 8),(71,none),(75,some 5),(77,none),(78,none),(79,none),(80,some 3),(81,none),(92,some 15),(94,some 32),(98,none),(100,none),(105,none),(106,none),(111,none),(120,none),(123,some 15),(125,none),(142,none),(143,some 6),(154,none),(167,none),(5,none),(169,none),(204,some 5),(225,some 2),(220,none),(256,none)]
 off:=[((26,0),0),((26,1),1),((26,2),2),((26,3),3),((26,4),4),((26,5),5),((90,0),0),((90,1),1),((90,2),2),((84,0),0),((84,1),1),((29,0),0),((29,1),1),((29,2),7),((29,3),8),((31,0),0),((31,1),1),((31,2),2),((31,3),3),((31,4),4),((31,5),5),((31,6),6),((34,0),0),((34,1),1),((34,2),2),((34,3),3),((34,4),4),((34,5),5),((34,6),6),((34,7),7),((36,0),0),((36,1),1),((38,0),0),((38,1),8),((38,2),9),((38,3),11),((43,0),0),((43,1),1),((112,0),0),((112,1),1),((46,0),0),((46,1),8),((46,2),9),((46,3),11),((48,0),0),((48,1),1),((48,2),7),((48,3),8),((50,0),0),((50,1),1),((50,2),2),((50,3),3),((50,4),4),((50,5),5),((50,6),6),((149,0),0),((149,1),1),((149,2),7),((75,0),0),((75,1),1),((75,2),2),((75,3),3),((75,4),4),((92,0),0),((92,1),1),((92,2),2),((92,3),5),((92,4),6),((94,0),0),((94,1),5),((94,2),6),((94,3),7),((94,4),22),((94,5),31),((123,0),0),((123,1),8),((123,2),10),((225,0),0),((225,1),1)]
 row:=[(22,(3,1,8)),(27,(26,6,56)),(69,(90,3,40)),(23,(84,2,32)),(42,(3,1,8)),(44,(112,2,32)),(71,(149,8,72)),(154,(27,1,24)),(169,(5,1,1)),(220,(225,2,32)),(256,(69,1,24))]
 str:=[(26,([i0,i0,i0,i0,i0,e0],[(0,1),(1,1),(2,1),(3,1),(4,1),(5,1)])),(90,([i0,i0,n0],[(0,1),(1,1),(2,1)])),(84,([n0,i0],[(0,1),(1,1)])),(29,([i0,i0,i0,i0,i0,i0,e0,n0,i0],[(0,1),(1,6),(7,1),(8,1)])),(31,([i0,i0,i0,i0,n0,n0,i0,i0,i0,i0,i0,i0,e0,n0,i0],[(0,1),(1,1),(2,1),(3,1),(4,1),(5,1),(6,9)])),(32,([i0,i0],[(0,1),(1,1)])),(34,([i0,i0,i0,i0,i0,i0,i0,i0],[(0,1),(1,1),(2,1),(3,1),(4,1),(5,1),(6,1),(7,1)])),(36,([i0,i0],[(0,1),(1,1)])),(38,([i0,i0,i0,i0,i0,i0,i0,i0,n0,i0,i0,n0],[(0,8),(8,1),(9,2),(11,1)])),(43,([i0,i0],[(0,1),(1,1)])),(112,([n0,i0],[(0,1),(1,1)])),(46,([i0,i0,i0,i0,i0,i0,i0,i0,n0,i0,i0,n0],[(0,8),(8,1),(9,2),(11,1)])),(48,([i0,i0,i0,i0,i0,i0,e0,n0,i0],[(0,1),(1,6),(7,1),(8,1)])),(50,([i0,i0,i0,i0,n0,n0,i0,i0,i0,i0,i0,i0,e0,n0,i0],[(0,1),(1,1),(2,1),(3,1),(4,1),(5,1),(6,9)])),(149,([i0,i0,i0,i0,i0,i0,e0,i0],[(0,1),(1,6),(7,1)])),(75,([i0,i0,i0,i0,e0],[(0,1),(1,1),(2,1),(3,1),(4,1)])),(80,([i0,i0,i0],[(0,1),(1,1),(2,1)])),(92,([b0,i0,i0,i0,n0,n0,i0,i0,i0,i0,i0,i0,e0,n0,i0],[(0,1),(1,1),(2,3),(5,1),(6,9)])),(94,([i0,i0,i0,i0,e0,i0,i0,b0,i0,i0,i0,n0,n0,i0,i0,i0,i0,i0,i0,e0,n0,i0,i0,i0,i0,i0,i0,i0,e0,n0,i0,b0],[(0,5),(5,1),(6,1),(7,15),(22,9),(31,1)])),(123,([i0,i0,i0,i0,i0,i0,i0,i0,n0,i0,i0,i0,i0,i0,e0],[(0,8),(8,2),(10,5)])),(143,([.v (.nilFunc),.v (.nilFunc),.v (.nilFunc),.v (.nilFunc),.v (.nilFunc),.v (.nilFunc)],[(0,1),(1,1),(2,1),(3,1),(4,1),(5,1)])),(204,([i0,i0,i0,i0,i0],[(0,1),(1,1),(2,1),(3,1),(4,1)])),(225,([i0,n0],[(0,1),(1,1)]))]
 strs:=[(9,())]
 ints:=[(3,())]
 how:=[]
 meth:=[]
 opens:=[]
 arr:=[(32,(2,1)),(80,(3,1)),(143,(6,1)),(204,(5,1))] }
def aq:Sx.Env.Ok env Tryz.prog where
 zero:=by
  intro e cs h
  have hm:=cB h
  simp only [env,List.mem_cons,Prod.mk.injEq,List.not_mem_nil,or_false] at hm
  iterate 65
   rcases hm with ⟨rfl,rfl⟩ | hm
   ·first | exact rM (by funext w;kernel_rfl) rfl (by kernel_rfl) rfl | exact ox (by funext w;kernel_rfl) rfl rfl
  rcases hm with ⟨rfl,rfl⟩
  first | exact rM (by funext w;kernel_rfl) rfl (by kernel_rfl) rfl | exact ox (by funext w;kernel_rfl) rfl rfl
 agg1:=by
  intro ty h
  have hm:=cB h
  simp only [env,List.mem_cons,Prod.mk.injEq,List.not_mem_nil,or_false] at hm
  iterate 65
   rcases hm with ⟨rfl,hn⟩ | hm
   ·first | exact fun a w=>by kernel_rfl | cases hn
  rcases hm with ⟨rfl,hn⟩
  first | exact fun a w=>by kernel_rfl | cases hn
 aggN:=by
  intro ty n h
  have hm:=cB h
  simp only [env,List.mem_cons,Prod.mk.injEq,List.not_mem_nil,or_false] at hm
  iterate 65
   rcases hm with ⟨rfl,hn⟩ | hm
   ·first | (cases hn;exact oB (fun w=>by kernel_rfl) (by kernel_rfl)) | cases hn
  rcases hm with ⟨rfl,hn⟩
  first | (cases hn;exact oB (fun w=>by kernel_rfl) (by kernel_rfl)) | cases hn
 off:=by
  intro s f d h
  have hm:=cB h
  simp only [env,List.mem_cons,Prod.mk.injEq,List.not_mem_nil,or_false] at hm
  iterate 78
   rcases hm with ⟨⟨rfl,rfl⟩,rfl⟩ | hm
   ·exact fun a w=>by kernel_rfl
  rcases hm with ⟨⟨rfl,rfl⟩,rfl⟩
  exact fun a w=>by kernel_rfl
 row:=by
  intro ty e size bytes h
  have hm:=cB h
  simp only [env,List.mem_cons,Prod.mk.injEq,List.not_mem_nil,or_false] at hm
  iterate 10
   rcases hm with ⟨rfl,rfl,rfl,rfl⟩ | hm
   ·exact ⟨by kernel_rfl,oc (by kernel_rfl) rfl (by decide)⟩
  rcases hm with ⟨rfl,rfl,rfl,rfl⟩
  exact ⟨by kernel_rfl,oc (by kernel_rfl) rfl (by decide)⟩
 str:=by
  intro ty cs places h
  have hm:=cB h
  simp only [env,List.mem_cons,Prod.mk.injEq,List.not_mem_nil,or_false] at hm
  rcases hm with ⟨rfl,rfl,rfl⟩ | ⟨rfl,rfl,rfl⟩ | ⟨rfl,rfl,rfl⟩ | ⟨rfl,rfl,rfl⟩ | ⟨rfl,rfl,rfl⟩ | ⟨rfl,rfl,rfl⟩ | ⟨rfl,rfl,rfl⟩ | ⟨rfl,rfl,rfl⟩ | ⟨rfl,rfl,rfl⟩ | ⟨rfl,rfl,rfl⟩ | ⟨rfl,rfl,rfl⟩ | ⟨rfl,rfl,rfl⟩ | ⟨rfl,rfl,rfl⟩ | ⟨rfl,rfl,rfl⟩ | ⟨rfl,rfl,rfl⟩ | ⟨rfl,rfl,rfl⟩ | ⟨rfl,rfl,rfl⟩ | ⟨rfl,rfl,rfl⟩ | ⟨rfl,rfl,rfl⟩ | ⟨rfl,rfl,rfl⟩ | ⟨rfl,rfl,rfl⟩ | ⟨rfl,rfl,rfl⟩ | ⟨rfl,rfl,rfl⟩
  ·exact cF rfl (built Tryz.underlying26 (fun w=>by kernel_rfl) (fun w=>by kernel_rfl))
  ·exact cF rfl (built Tryz.underlying90 (fun w=>by kernel_rfl) (fun w=>by kernel_rfl))
  ·exact cF rfl (built Tryz.underlying84 (fun w=>by kernel_rfl) (fun w=>by kernel_rfl))
  ·exact cF rfl (built Tryz.underlying29 (fun w=>by kernel_rfl) (fun w=>by kernel_rfl))
  ·exact cF rfl (built Tryz.underlying31 (fun w=>by kernel_rfl) (fun w=>by kernel_rfl))
  ·exact cF rfl (j3 (s:=1) Tryz.underlying32 (fun w=>by kernel_rfl) (fun w=>by kernel_rfl) (jR rfl))
  ·exact cF rfl (built Tryz.underlying34 (fun w=>by kernel_rfl) (fun w=>by kernel_rfl))
  ·exact cF rfl (built Tryz.underlying36 (fun w=>by kernel_rfl) (fun w=>by kernel_rfl))
  ·exact cF rfl (built Tryz.underlying38 (fun w=>by kernel_rfl) (fun w=>by kernel_rfl))
  ·exact cF rfl (built Tryz.underlying43 (fun w=>by kernel_rfl) (fun w=>by kernel_rfl))
  ·exact cF rfl (built Tryz.underlying112 (fun w=>by kernel_rfl) (fun w=>by kernel_rfl))
  ·exact cF rfl (built Tryz.underlying46 (fun w=>by kernel_rfl) (fun w=>by kernel_rfl))
  ·exact cF rfl (built Tryz.underlying48 (fun w=>by kernel_rfl) (fun w=>by kernel_rfl))
  ·exact cF rfl (built Tryz.underlying50 (fun w=>by kernel_rfl) (fun w=>by kernel_rfl))
  ·exact cF rfl (built Tryz.underlying149 (fun w=>by kernel_rfl) (fun w=>by kernel_rfl))
  ·exact cF rfl (built Tryz.underlying75 (fun w=>by kernel_rfl) (fun w=>by kernel_rfl))
  ·exact cF rfl (j3 (s:=1) Tryz.underlying80 (fun w=>by kernel_rfl) (fun w=>by kernel_rfl) (jR rfl))
  ·exact cF rfl (built Tryz.underlying92 (fun w=>by kernel_rfl) (fun w=>by kernel_rfl))
  ·exact cF rfl (built Tryz.underlying94 (fun w=>by kernel_rfl) (fun w=>by kernel_rfl))
  ·exact cF rfl (built Tryz.underlying123 (fun w=>by kernel_rfl) (fun w=>by kernel_rfl))
  ·exact cF rfl (j3 (s:=1) Tryz.underlying143 (fun w=>by kernel_rfl) (fun w=>by kernel_rfl) (jR rfl))
  ·exact cF rfl (j3 (s:=1) Tryz.underlying204 (fun w=>by kernel_rfl) (fun w=>by kernel_rfl) (jR rfl))
  ·exact cF rfl (built Tryz.underlying225 (fun w=>by kernel_rfl) (fun w=>by kernel_rfl))
 strs:=by
  intro ty u h
  have hm:=cB h
  simp only [env,List.mem_cons,Prod.mk.injEq,List.not_mem_nil,or_false] at hm
  rcases hm with ⟨rfl,_⟩
  ·exact Tryz.underlying9
 ints:=by
  intro ty u h
  have hm:=cB h
  simp only [env,List.mem_cons,Prod.mk.injEq,List.not_mem_nil,or_false] at hm
  rcases hm with ⟨rfl,_⟩
  ·exact Tryz.underlying3
 size:=by
  intro ty n h
  have hm:=cB h
  simp only [env,List.mem_cons,Prod.mk.injEq,List.not_mem_nil,or_false] at hm
  iterate 65
   rcases hm with ⟨rfl,rfl⟩ | hm
   ·exact gN (by kernel_rfl)
  rcases hm with ⟨rfl,rfl⟩
  exact gN (by kernel_rfl)
 mixed:=by kernel_rfl
 row1:=by
  intro ty e size bytes h
  have hm:=cB h
  simp only [env,List.mem_cons,Prod.mk.injEq,List.not_mem_nil,or_false] at hm
  iterate 10
   rcases hm with ⟨rfl,rfl,rfl,rfl⟩ | hm
   ·exact row_one (by kernel_rfl)
  rcases hm with ⟨rfl,rfl,rfl,rfl⟩
  exact row_one (by kernel_rfl)
 meth:=by intro ty n g h;cases h
 arr:=by
  intro ty n size h
  have hm:=cB h
  simp only [env,List.mem_cons,Prod.mk.injEq,List.not_mem_nil,or_false] at hm
  rcases hm with ⟨rfl,rfl,rfl⟩ | ⟨rfl,rfl,rfl⟩ | ⟨rfl,rfl,rfl⟩ | ⟨rfl,rfl,rfl⟩
  ·exact Yz Tryz.underlying32 (by kernel_rfl)
  ·exact Yz Tryz.underlying80 (by kernel_rfl)
  ·exact Yz Tryz.underlying143 (by kernel_rfl)
  ·exact Yz Tryz.underlying204 (by kernel_rfl)
end Go.Proofs.YtdbjakibneeeiaaGreatDoor.gI
namespace Go.Proofs.YtdbjakibneeeiaaGreatDoor.DO
open Go.RowKit Sx
def env:Sx.Env:={ gI.env with how:=[(84,.fresh 26 6)] }
def aq:Sx.Env.Ok env Tryz.prog where
 zero:=gI.aq.zero
 agg1:=gI.aq.agg1
 aggN:=gI.aq.aggN
 off:=gI.aq.off
 row:=gI.aq.row
 str:=gI.aq.str
 strs:=gI.aq.strs
 ints:=gI.aq.ints
 size:=gI.aq.size
 mixed:=gI.aq.mixed
 row1:=gI.aq.row1
 meth:=gI.aq.meth
 arr:=gI.aq.arr
end Go.Proofs.YtdbjakibneeeiaaGreatDoor.DO
namespace Go.Proofs.YtdbjakibneeeiaaGreatDoor.Xc
open Go.RowKit Sx
abbrev env:Sx.Env:=DO.env
def aq:Sx.Env.Ok env Tryz.prog:=DO.aq
end Go.Proofs.YtdbjakibneeeiaaGreatDoor.Xc
namespace Go.Proofs.YtdbjakibneeeiaaGreatDoor.D2
open Go.RowKit Sx
abbrev env:Sx.Env:=DO.env
def aq:Sx.Env.Ok env Tryz.prog:=DO.aq
end Go.Proofs.YtdbjakibneeeiaaGreatDoor.D2
