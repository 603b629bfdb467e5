/- Layer 13 (pool): what callees lay; Clone of accounts, within, the two Config. -/
import Derived.Test.YtdbjakibneeeiaaGreatDoorKShAll
import Derived.Test.YtdbjakibneeeiaaGreatDoorKQueTop
import Derived.Test.YtdbjakibneeeiaaGreatDoorKTxnTop
import Derived.Test.YtdbjakibneeeiaaGreatDoorKTxnREnc
import Derived.Test.YtdbjakibneeeiaaGreatDoorKG18QueueOpen
set_option linter.all false
set_option maxHeartbeats 4000000
set_option maxRecDepth 100000
namespace Go.Proofs.YtdbjakibneeeiaaGreatDoor.Rn
open Go.RowKit Sx txn queue aL ax
structure Cf where
 sh:Int
 so:Int
 hd:Int
 per:Int
 bp:Int
 fd:Int
 wk:Int
 rm:Int
end Go.Proofs.YtdbjakibneeeiaaGreatDoor.Rn
namespace Go.Proofs.YtdbjakibneeeiaaGreatDoor.Rn
open Go.RowKit Sx txn queue aL ax
structure Oq where
 k:Int
 s:Int
 v:Int
 g:Int
 d:ByteArray
def KP (C:Cf) (a:Option Addr) (n c:Nat) (O:Oq):Value:=.agg #[.int .i64 C.sh,.int .i64 C.so,.int .i64 C.hd,.int .i64 C.per,.int .i64 C.bp,.int .i64 C.fd,.int .i64 C.wk,.int .i64 C.rm,.slice a n c,.int .i64 0,.int .i64 O.k,.int .i64 O.s,.int .i64 O.v,.int .i64 O.g,.string O.d]
end Go.Proofs.YtdbjakibneeeiaaGreatDoor.Rn
namespace Go.Proofs.YtdbjakibneeeiaaGreatDoor.Rn
open Go.RowKit Sx txn queue aL ax
def gU (v:Value):List (Int×Value):=[(0,.func (.func 98) #[v] #[]),(1,.func (.func 99) #[v] #[]),(2,.func (.func 100) #[v] #[]),(3,.func (.func 101) #[v] #[]),(4,.func (.func 102) #[v] #[]),(5,.func (.func 103) #[v] #[]),(6,.func (.func 104) #[v] #[])]
def ways (C:Cf) (O:Oq) (a:Option Addr) (n c:Nat) (w:World) :
  Calls Tryz.prog 58 (List.toArray [KP C a n c O]) w fun e w'=>∃g:Nat,dy w w' e (.map (some g)) [bL g (gU (KP C a n c O))]:=by
 refine au DO.aq.keeps Tryz.func58 rfl [] (aQ _ _ (by kernel_rfl)) [] (by simp) ?_
 conv=>arg 5;whnf
 refine jP rfl (fun g hg=>?_)
 conv=>arg 5;whnf
 refine gK (g:=g) (l:=(gU (KP C a n c O)).take 0) (x:=0) (v:=.func (.func 98) #[KP C a n c O] #[]) [bL g ((gU (KP C a n c O)).take 1)] rfl rfl rfl rfl Tryz.underlying127 Tryz.underlying3 (.head _) (.inl hg) (fun ψ hψ=>by simp only [List.mem_singleton] at hψ;exact .inr hψ) ?_
 conv=>arg 5;whnf
 refine gK (g:=g) (l:=(gU (KP C a n c O)).take 1) (x:=1) (v:=.func (.func 99) #[KP C a n c O] #[]) [bL g ((gU (KP C a n c O)).take 2)] rfl rfl rfl rfl Tryz.underlying127 Tryz.underlying3 (.head _) (.inl hg) (fun ψ hψ=>by simp only [List.mem_singleton] at hψ;exact .inr hψ) ?_
 conv=>arg 5;whnf
 refine gK (g:=g) (l:=(gU (KP C a n c O)).take 2) (x:=2) (v:=.func (.func 100) #[KP C a n c O] #[]) [bL g ((gU (KP C a n c O)).take 3)] rfl rfl rfl rfl Tryz.underlying127 Tryz.underlying3 (.head _) (.inl hg) (fun ψ hψ=>by simp only [List.mem_singleton] at hψ;exact .inr hψ) ?_
 conv=>arg 5;whnf
 refine gK (g:=g) (l:=(gU (KP C a n c O)).take 3) (x:=3) (v:=.func (.func 101) #[KP C a n c O] #[]) [bL g ((gU (KP C a n c O)).take 4)] rfl rfl rfl rfl Tryz.underlying127 Tryz.underlying3 (.head _) (.inl hg) (fun ψ hψ=>by simp only [List.mem_singleton] at hψ;exact .inr hψ) ?_
 conv=>arg 5;whnf
 refine gK (g:=g) (l:=(gU (KP C a n c O)).take 4) (x:=4) (v:=.func (.func 102) #[KP C a n c O] #[]) [bL g ((gU (KP C a n c O)).take 5)] rfl rfl rfl rfl Tryz.underlying127 Tryz.underlying3 (.head _) (.inl hg) (fun ψ hψ=>by simp only [List.mem_singleton] at hψ;exact .inr hψ) ?_
 conv=>arg 5;whnf
 refine gK (g:=g) (l:=(gU (KP C a n c O)).take 5) (x:=5) (v:=.func (.func 103) #[KP C a n c O] #[]) [bL g ((gU (KP C a n c O)).take 6)] rfl rfl rfl rfl Tryz.underlying127 Tryz.underlying3 (.head _) (.inl hg) (fun ψ hψ=>by simp only [List.mem_singleton] at hψ;exact .inr hψ) ?_
 conv=>arg 5;whnf
 refine gK (g:=g) (l:=(gU (KP C a n c O)).take 6) (x:=6) (v:=.func (.func 104) #[KP C a n c O] #[]) [bL g ((gU (KP C a n c O)).take 7)] rfl rfl rfl rfl Tryz.underlying127 Tryz.underlying3 (.head _) (.inl hg) (fun ψ hψ=>by simp only [List.mem_singleton] at hψ;exact .inr hψ) ?_
 conv=>arg 5;whnf
 exact av fun β ρ w' hM'=>⟨g,rfl,hM'.below,fun φ hφ g' hg'=>by simp only [List.mem_singleton] at hφ;subst hφ;cases hg';exact ⟨hg,(hM'.fact _ (.head _) g rfl).2⟩⟩
end Go.Proofs.YtdbjakibneeeiaaGreatDoor.Rn
namespace Go.Proofs.YtdbjakibneeeiaaGreatDoor.Rn
open Go.RowKit Sx txn queue aL ax
abbrev T1:Tx:=⟨1,0,5,9,10,ByteArray.empty⟩
abbrev T2:Tx:=⟨2,0,4,9,10,ByteArray.empty⟩
abbrev T3:Tx:=⟨3,0,4,9,10,ByteArray.empty⟩
abbrev A1:PA:=(1,0,[T1])
abbrev A2:PA:=(2,0,[T2])
end Go.Proofs.YtdbjakibneeeiaaGreatDoor.Rn
