/- Layer 16 (task): the document's Same, of whatever shards. -/
import Derived.Test.YtfhgkkcpkcjbmaaGreatDoorKTkRR
import Derived.Test.YtfhgkkcpkcjbmaaGreatDoorKLkTop
set_option linter.all false
set_option maxHeartbeats 4000000
set_option maxRecDepth 100000



namespace Go.Proofs.YtfhgkkcpkcjbmaaGreatDoor.task
open Go.RowKit Sx txn queue greedy shard pool Go.Proofs.YtfhgkkcpkcjbmaaGreatDoor.look lock
theorem lkCase {l l':List Int} {κ k:Nat} {who a b:Int} (h:l'=l∨(l'=l.set κ who∧l[κ]?=some 0)∨(l'=l.set κ 0∧l[κ]?=some who)) (ha:l[k]?=some a) (hb:l'[k]?=some b):b=a∨(a=0∧b=who)∨(a=who∧b=0):=by
 have key:∀v c:Int,l'=l.set κ v→l[κ]?=some c→b=a∨(a=c∧b=v):=fun v c e hc=>by
  rw [e,List.getElem?_set] at hb
  by_cases hk:κ=k
  ·subst hk
   rw [if_pos rfl,if_pos (List.getElem?_eq_some_iff.1 ha).1] at hb
   rw [hc] at ha
   exact .inr ⟨(Option.some.inj ha).symm,(Option.some.inj hb).symm⟩
  ·rw [if_neg hk,ha] at hb
   exact .inl (Option.some.inj hb).symm
 rcases h with e | ⟨e,hc⟩ | ⟨e,hc⟩
 ·rw [e,ha] at hb
  exact .inl (Option.some.inj hb).symm
 ·exact (key _ _ e hc).elim .inl (fun h=>.inr (.inl h))
 ·exact (key _ _ e hc).elim .inl (fun h=>.inr (.inr h))
end Go.Proofs.YtfhgkkcpkcjbmaaGreatDoor.task
