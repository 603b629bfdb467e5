/-
  NARROWER THAN 'FOR EVERY INPUT', by the rows' own cells (each row's printed sentence says how): ShardJoins: laid · ShardWorst: laid · ShardOrder: laid · ShardSlots: laid · GreedyTells: laid · GreedyTakes: laid · GreedyMore: laid · GreedyGas: laid · GreedyHeads: laid.
  DERIVED. THE GIVEN ROWS OF THIS SEAT. 9 by the template 'for every input the law returns true; each argument reads behind the call as it read before'; 0 by the template 'total and deterministic' (their statements: YtohikebnlamnnaaDoorTotals.lean).
  GIVEN WITH THE SEED: the statements are not yours to turn. If you find one false, say at which input.
  Laid BY PROGRAM, IN A SANDBOX (cutbox-rows.mjs): the forced cells as the released guide's own fill.sh prints them over the translation e370dcf41da42fac… (all of the seat's roots in one cut). By AI agents, Wed Nov 11 2026. No macro, syntax, notation, axiom, sorry.
-/
import Derived.Test.YtohikebnlamnnaaDoorChecked
import GoSem.Claim
import GoSem.ClaimJoined
import GoSem.ClaimMapViews
import Derived.JoinedTies
import Derived.KernelRfl
namespace Go.Proofs.YtohikebnlamnnaaDoor
/- THE CELL 'sum', in the pinned program and in every row, IS THE sha256 OF THE DUMP (.gsa) THAT YtohikebnlamnnaaDoorProg.lean LOADS. Nothing in Lean hashes anything: it is a label: what it is worth is what the hold of that sum in a sandbox is worth. -/
noncomputable def Tryd.pinned : Pinned := { name := "ytohikebnlamnnaadoor", sum := "e370dcf41da42fac63a39537d802fb61bc0ca541b2562400ece2c21e0ac77fe1", checked := Tryd.checked }
namespace Rows
def none {H : Type} : Left H := { results := [], args := [] }

/- WHAT THE LISTED PACKAGE-LEVEL VARIABLES READ AS WHEN THE CALL BEGINS. Each datum BY PROGRAM (the guide's laid-datum.mjs) off the statement by which the dump's own 'gosem.cut.vars' lays the variable. In a bare row this is a premise. The card (YtohikebnlamnnaaDoorCards.lean) ties it to the program's text. -/
def laid_hopper_txn_most {H : Type} : DataW H := .agg [.lit (.int .i64 255), .lit (.int .i64 4294967295), .lit (.int .i64 1099511627776), .lit (.int .i64 1099511627776), .lit (.int .i64 1073741824)]

/-- 'hopperlaw11.ShardJoins': WHATEVER THE INPUT: true; the input reads as it did. -/
def shardJoinsSpec : ChangeSpec := { name := "shardJoins", fn := fun _ => fun
  | [d] => { results := [.lit (.bool true)], args := [d] }
  | _ => none }
def shardJoinsRow : OpenClaim := { program := "ytohikebnlamnnaadoor", sum := "e370dcf41da42fac63a39537d802fb61bc0ca541b2562400ece2c21e0ac77fe1", func := "hopper/hopperlaw11.ShardJoins", spec := "shardJoins", unfollowed := true, recurses := true, named := ["hopper/txn.most"], apart := false, laid := [("hopper/txn.most", laid_hopper_txn_most)] }
def ShardJoinsSaid : Prop := shardJoinsRow.holds Tryd.pinned (OpenSpec.ofChange shardJoinsSpec)

/-- ITS FALSE NEIGHBOUR: 'it returns false'. Refute it at one input. -/
def shardJoinsWrong : ChangeSpec := { name := "shardJoins", fn := fun _ => fun
  | [d] => { results := [.lit (.bool false)], args := [d] }
  | _ => none }
def ShardJoinsWrongFalsely : Prop := shardJoinsRow.holds Tryd.pinned (OpenSpec.ofChange shardJoinsWrong)

/-- 'hopperlaw11.ShardWorst': WHATEVER THE INPUT: true; the input reads as it did. -/
def shardWorstSpec : ChangeSpec := { name := "shardWorst", fn := fun _ => fun
  | [d] => { results := [.lit (.bool true)], args := [d] }
  | _ => none }
def shardWorstRow : OpenClaim := { program := "ytohikebnlamnnaadoor", sum := "e370dcf41da42fac63a39537d802fb61bc0ca541b2562400ece2c21e0ac77fe1", func := "hopper/hopperlaw11.ShardWorst", spec := "shardWorst", unfollowed := true, recurses := true, named := ["hopper/txn.most"], apart := false, laid := [("hopper/txn.most", laid_hopper_txn_most)] }
def ShardWorstSaid : Prop := shardWorstRow.holds Tryd.pinned (OpenSpec.ofChange shardWorstSpec)

/-- ITS FALSE NEIGHBOUR: 'it returns false'. Refute it at one input. -/
def shardWorstWrong : ChangeSpec := { name := "shardWorst", fn := fun _ => fun
  | [d] => { results := [.lit (.bool false)], args := [d] }
  | _ => none }
def ShardWorstWrongFalsely : Prop := shardWorstRow.holds Tryd.pinned (OpenSpec.ofChange shardWorstWrong)

/-- 'hopperlaw11.ShardOrder': WHATEVER THE INPUT: true; the input reads as it did. -/
def shardOrderSpec : ChangeSpec := { name := "shardOrder", fn := fun _ => fun
  | [d1, d2, d3] => { results := [.lit (.bool true)], args := [d1, d2, d3] }
  | _ => none }
def shardOrderRow : OpenClaim := { program := "ytohikebnlamnnaadoor", sum := "e370dcf41da42fac63a39537d802fb61bc0ca541b2562400ece2c21e0ac77fe1", func := "hopper/hopperlaw11.ShardOrder", spec := "shardOrder", unfollowed := true, recurses := true, named := ["hopper/txn.most"], apart := false, laid := [("hopper/txn.most", laid_hopper_txn_most)] }
def ShardOrderSaid : Prop := shardOrderRow.holds Tryd.pinned (OpenSpec.ofChange shardOrderSpec)

/-- ITS FALSE NEIGHBOUR: 'it returns false'. Refute it at one input. -/
def shardOrderWrong : ChangeSpec := { name := "shardOrder", fn := fun _ => fun
  | [d1, d2, d3] => { results := [.lit (.bool false)], args := [d1, d2, d3] }
  | _ => none }
def ShardOrderWrongFalsely : Prop := shardOrderRow.holds Tryd.pinned (OpenSpec.ofChange shardOrderWrong)

/-- 'hopperlaw11.ShardSlots': WHATEVER THE INPUT: true; the input reads as it did. -/
def shardSlotsSpec : ChangeSpec := { name := "shardSlots", fn := fun _ => fun
  | [d] => { results := [.lit (.bool true)], args := [d] }
  | _ => none }
def shardSlotsRow : OpenClaim := { program := "ytohikebnlamnnaadoor", sum := "e370dcf41da42fac63a39537d802fb61bc0ca541b2562400ece2c21e0ac77fe1", func := "hopper/hopperlaw11.ShardSlots", spec := "shardSlots", unfollowed := true, recurses := true, named := ["hopper/txn.most"], apart := false, laid := [("hopper/txn.most", laid_hopper_txn_most)] }
def ShardSlotsSaid : Prop := shardSlotsRow.holds Tryd.pinned (OpenSpec.ofChange shardSlotsSpec)

/-- ITS FALSE NEIGHBOUR: 'it returns false'. Refute it at one input. -/
def shardSlotsWrong : ChangeSpec := { name := "shardSlots", fn := fun _ => fun
  | [d] => { results := [.lit (.bool false)], args := [d] }
  | _ => none }
def ShardSlotsWrongFalsely : Prop := shardSlotsRow.holds Tryd.pinned (OpenSpec.ofChange shardSlotsWrong)

/-- 'hopperlaw12.GreedyTells': WHATEVER THE INPUT: true; the input reads as it did. -/
def greedyTellsSpec : ChangeSpec := { name := "greedyTells", fn := fun _ => fun
  | [d1, d2, d3] => { results := [.lit (.bool true)], args := [d1, d2, d3] }
  | _ => none }
def greedyTellsRow : OpenClaim := { program := "ytohikebnlamnnaadoor", sum := "e370dcf41da42fac63a39537d802fb61bc0ca541b2562400ece2c21e0ac77fe1", func := "hopper/hopperlaw12.GreedyTells", spec := "greedyTells", unfollowed := true, recurses := true, named := ["hopper/txn.most"], apart := false, laid := [("hopper/txn.most", laid_hopper_txn_most)] }
def GreedyTellsSaid : Prop := greedyTellsRow.holds Tryd.pinned (OpenSpec.ofChange greedyTellsSpec)

/-- ITS FALSE NEIGHBOUR: 'it returns false'. Refute it at one input. -/
def greedyTellsWrong : ChangeSpec := { name := "greedyTells", fn := fun _ => fun
  | [d1, d2, d3] => { results := [.lit (.bool false)], args := [d1, d2, d3] }
  | _ => none }
def GreedyTellsWrongFalsely : Prop := greedyTellsRow.holds Tryd.pinned (OpenSpec.ofChange greedyTellsWrong)

/-- 'hopperlaw12.GreedyTakes': WHATEVER THE INPUT: true; the input reads as it did. -/
def greedyTakesSpec : ChangeSpec := { name := "greedyTakes", fn := fun _ => fun
  | [d1, d2] => { results := [.lit (.bool true)], args := [d1, d2] }
  | _ => none }
def greedyTakesRow : OpenClaim := { program := "ytohikebnlamnnaadoor", sum := "e370dcf41da42fac63a39537d802fb61bc0ca541b2562400ece2c21e0ac77fe1", func := "hopper/hopperlaw12.GreedyTakes", spec := "greedyTakes", unfollowed := true, recurses := true, named := ["hopper/txn.most"], apart := false, laid := [("hopper/txn.most", laid_hopper_txn_most)] }
def GreedyTakesSaid : Prop := greedyTakesRow.holds Tryd.pinned (OpenSpec.ofChange greedyTakesSpec)

/-- ITS FALSE NEIGHBOUR: 'it returns false'. Refute it at one input. -/
def greedyTakesWrong : ChangeSpec := { name := "greedyTakes", fn := fun _ => fun
  | [d1, d2] => { results := [.lit (.bool false)], args := [d1, d2] }
  | _ => none }
def GreedyTakesWrongFalsely : Prop := greedyTakesRow.holds Tryd.pinned (OpenSpec.ofChange greedyTakesWrong)

/-- 'hopperlaw12.GreedyMore': WHATEVER THE INPUT: true; the input reads as it did. -/
def greedyMoreSpec : ChangeSpec := { name := "greedyMore", fn := fun _ => fun
  | [d] => { results := [.lit (.bool true)], args := [d] }
  | _ => none }
def greedyMoreRow : OpenClaim := { program := "ytohikebnlamnnaadoor", sum := "e370dcf41da42fac63a39537d802fb61bc0ca541b2562400ece2c21e0ac77fe1", func := "hopper/hopperlaw12.GreedyMore", spec := "greedyMore", unfollowed := true, recurses := true, named := ["hopper/txn.most"], apart := false, laid := [("hopper/txn.most", laid_hopper_txn_most)] }
def GreedyMoreSaid : Prop := greedyMoreRow.holds Tryd.pinned (OpenSpec.ofChange greedyMoreSpec)

/-- ITS FALSE NEIGHBOUR: 'it returns false'. Refute it at one input. -/
def greedyMoreWrong : ChangeSpec := { name := "greedyMore", fn := fun _ => fun
  | [d] => { results := [.lit (.bool false)], args := [d] }
  | _ => none }
def GreedyMoreWrongFalsely : Prop := greedyMoreRow.holds Tryd.pinned (OpenSpec.ofChange greedyMoreWrong)

/-- 'hopperlaw12.GreedyGas': WHATEVER THE INPUT: true; the input reads as it did. -/
def greedyGasSpec : ChangeSpec := { name := "greedyGas", fn := fun _ => fun
  | [d1, d2] => { results := [.lit (.bool true)], args := [d1, d2] }
  | _ => none }
def greedyGasRow : OpenClaim := { program := "ytohikebnlamnnaadoor", sum := "e370dcf41da42fac63a39537d802fb61bc0ca541b2562400ece2c21e0ac77fe1", func := "hopper/hopperlaw12.GreedyGas", spec := "greedyGas", unfollowed := true, recurses := true, named := ["hopper/txn.most"], apart := false, laid := [("hopper/txn.most", laid_hopper_txn_most)] }
def GreedyGasSaid : Prop := greedyGasRow.holds Tryd.pinned (OpenSpec.ofChange greedyGasSpec)

/-- ITS FALSE NEIGHBOUR: 'it returns false'. Refute it at one input. -/
def greedyGasWrong : ChangeSpec := { name := "greedyGas", fn := fun _ => fun
  | [d1, d2] => { results := [.lit (.bool false)], args := [d1, d2] }
  | _ => none }
def GreedyGasWrongFalsely : Prop := greedyGasRow.holds Tryd.pinned (OpenSpec.ofChange greedyGasWrong)

/-- 'hopperlaw12.GreedyHeads': WHATEVER THE INPUT: true; the input reads as it did. -/
def greedyHeadsSpec : ChangeSpec := { name := "greedyHeads", fn := fun _ => fun
  | [d1, d2] => { results := [.lit (.bool true)], args := [d1, d2] }
  | _ => none }
def greedyHeadsRow : OpenClaim := { program := "ytohikebnlamnnaadoor", sum := "e370dcf41da42fac63a39537d802fb61bc0ca541b2562400ece2c21e0ac77fe1", func := "hopper/hopperlaw12.GreedyHeads", spec := "greedyHeads", unfollowed := true, recurses := true, named := ["hopper/txn.most"], apart := false, laid := [("hopper/txn.most", laid_hopper_txn_most)] }
def GreedyHeadsSaid : Prop := greedyHeadsRow.holds Tryd.pinned (OpenSpec.ofChange greedyHeadsSpec)

/-- ITS FALSE NEIGHBOUR: 'it returns false'. Refute it at one input. -/
def greedyHeadsWrong : ChangeSpec := { name := "greedyHeads", fn := fun _ => fun
  | [d1, d2] => { results := [.lit (.bool false)], args := [d1, d2] }
  | _ => none }
def GreedyHeadsWrongFalsely : Prop := greedyHeadsRow.holds Tryd.pinned (OpenSpec.ofChange greedyHeadsWrong)

/- THE SECOND FORM. 'bulk': how many values and letters a reading holds, each counted each time it is reached (what is shared counts as often as it is met; a slice's spare places count too). A statement '..UptoSaid' is the law's where the arguments, and the package variables that the reading takes, are together of bulk at most 1048576: NARROWER than '..Said'. Prove '..Said' where nothing that the law and all that it calls make is longer than what came in: it says more and counts as full. Else prove '..UptoSaid'. A law counts once. -/
mutual
def uptoBulk {H : Type} : DataW H → Nat
  | .lit (.string bytes) => bytes.length + 1
  | .lit _ => 1
  | .nil => 1
  | .ptr d => uptoBulk d + 1
  | .slice elems spare => uptoBulkAll elems + uptoBulkAll spare + 1
  | .agg parts => uptoBulkAll parts + 1
  | .iface _ d => uptoBulk d + 1
  | .map entries => uptoBulkEntries entries + 1
  | .held _ => 1
def uptoBulkAll {H : Type} : List (DataW H) → Nat
  | [] => 0
  | d :: r => uptoBulk d + uptoBulkAll r
def uptoBulkEntries {H : Type} : List (Lit × DataW H) → Nat
  | [] => 0
  | x :: r => uptoBulkEntry x + uptoBulkEntries r
def uptoBulkEntry {H : Type} : Lit × DataW H → Nat
  | (.string bytes, d) => bytes.length + uptoBulk d + 1
  | (_, d) => uptoBulk d + 1
 end
def uptoSmall : (H : Type) → List (DataW H) → Bool := fun _ ds => decide (uptoBulkAll ds ≤ 1048576)
def OpenSpec.upto (s : _root_.Go.ChangeSpec) : _root_.Go.OpenSpec := { _root_.Go.OpenSpec.ofChange s with cond := some uptoSmall }

/-- 'hopperlaw11.ShardJoins', WHERE WHAT IT READS IS OF BULK AT MOST 1048576: true; the input reads as it did. -/
def shardJoinsUptoRow : OpenClaim := { program := "ytohikebnlamnnaadoor", sum := "e370dcf41da42fac63a39537d802fb61bc0ca541b2562400ece2c21e0ac77fe1", func := "hopper/hopperlaw11.ShardJoins", spec := "shardJoins", unfollowed := true, recurses := true, named := ["hopper/txn.most"], apart := false, laid := [("hopper/txn.most", laid_hopper_txn_most)], narrowed := true }
def ShardJoinsUptoSaid : Prop := shardJoinsUptoRow.holds Tryd.pinned (OpenSpec.upto shardJoinsSpec)

/-- 'hopperlaw11.ShardWorst', WHERE WHAT IT READS IS OF BULK AT MOST 1048576: true; the input reads as it did. -/
def shardWorstUptoRow : OpenClaim := { program := "ytohikebnlamnnaadoor", sum := "e370dcf41da42fac63a39537d802fb61bc0ca541b2562400ece2c21e0ac77fe1", func := "hopper/hopperlaw11.ShardWorst", spec := "shardWorst", unfollowed := true, recurses := true, named := ["hopper/txn.most"], apart := false, laid := [("hopper/txn.most", laid_hopper_txn_most)], narrowed := true }
def ShardWorstUptoSaid : Prop := shardWorstUptoRow.holds Tryd.pinned (OpenSpec.upto shardWorstSpec)

/-- 'hopperlaw11.ShardOrder', WHERE WHAT IT READS IS OF BULK AT MOST 1048576: true; the input reads as it did. -/
def shardOrderUptoRow : OpenClaim := { program := "ytohikebnlamnnaadoor", sum := "e370dcf41da42fac63a39537d802fb61bc0ca541b2562400ece2c21e0ac77fe1", func := "hopper/hopperlaw11.ShardOrder", spec := "shardOrder", unfollowed := true, recurses := true, named := ["hopper/txn.most"], apart := false, laid := [("hopper/txn.most", laid_hopper_txn_most)], narrowed := true }
def ShardOrderUptoSaid : Prop := shardOrderUptoRow.holds Tryd.pinned (OpenSpec.upto shardOrderSpec)

/-- 'hopperlaw11.ShardSlots', WHERE WHAT IT READS IS OF BULK AT MOST 1048576: true; the input reads as it did. -/
def shardSlotsUptoRow : OpenClaim := { program := "ytohikebnlamnnaadoor", sum := "e370dcf41da42fac63a39537d802fb61bc0ca541b2562400ece2c21e0ac77fe1", func := "hopper/hopperlaw11.ShardSlots", spec := "shardSlots", unfollowed := true, recurses := true, named := ["hopper/txn.most"], apart := false, laid := [("hopper/txn.most", laid_hopper_txn_most)], narrowed := true }
def ShardSlotsUptoSaid : Prop := shardSlotsUptoRow.holds Tryd.pinned (OpenSpec.upto shardSlotsSpec)

/-- 'hopperlaw12.GreedyTells', WHERE WHAT IT READS IS OF BULK AT MOST 1048576: true; the input reads as it did. -/
def greedyTellsUptoRow : OpenClaim := { program := "ytohikebnlamnnaadoor", sum := "e370dcf41da42fac63a39537d802fb61bc0ca541b2562400ece2c21e0ac77fe1", func := "hopper/hopperlaw12.GreedyTells", spec := "greedyTells", unfollowed := true, recurses := true, named := ["hopper/txn.most"], apart := false, laid := [("hopper/txn.most", laid_hopper_txn_most)], narrowed := true }
def GreedyTellsUptoSaid : Prop := greedyTellsUptoRow.holds Tryd.pinned (OpenSpec.upto greedyTellsSpec)

/-- 'hopperlaw12.GreedyTakes', WHERE WHAT IT READS IS OF BULK AT MOST 1048576: true; the input reads as it did. -/
def greedyTakesUptoRow : OpenClaim := { program := "ytohikebnlamnnaadoor", sum := "e370dcf41da42fac63a39537d802fb61bc0ca541b2562400ece2c21e0ac77fe1", func := "hopper/hopperlaw12.GreedyTakes", spec := "greedyTakes", unfollowed := true, recurses := true, named := ["hopper/txn.most"], apart := false, laid := [("hopper/txn.most", laid_hopper_txn_most)], narrowed := true }
def GreedyTakesUptoSaid : Prop := greedyTakesUptoRow.holds Tryd.pinned (OpenSpec.upto greedyTakesSpec)

/-- 'hopperlaw12.GreedyMore', WHERE WHAT IT READS IS OF BULK AT MOST 1048576: true; the input reads as it did. -/
def greedyMoreUptoRow : OpenClaim := { program := "ytohikebnlamnnaadoor", sum := "e370dcf41da42fac63a39537d802fb61bc0ca541b2562400ece2c21e0ac77fe1", func := "hopper/hopperlaw12.GreedyMore", spec := "greedyMore", unfollowed := true, recurses := true, named := ["hopper/txn.most"], apart := false, laid := [("hopper/txn.most", laid_hopper_txn_most)], narrowed := true }
def GreedyMoreUptoSaid : Prop := greedyMoreUptoRow.holds Tryd.pinned (OpenSpec.upto greedyMoreSpec)

/-- 'hopperlaw12.GreedyGas', WHERE WHAT IT READS IS OF BULK AT MOST 1048576: true; the input reads as it did. -/
def greedyGasUptoRow : OpenClaim := { program := "ytohikebnlamnnaadoor", sum := "e370dcf41da42fac63a39537d802fb61bc0ca541b2562400ece2c21e0ac77fe1", func := "hopper/hopperlaw12.GreedyGas", spec := "greedyGas", unfollowed := true, recurses := true, named := ["hopper/txn.most"], apart := false, laid := [("hopper/txn.most", laid_hopper_txn_most)], narrowed := true }
def GreedyGasUptoSaid : Prop := greedyGasUptoRow.holds Tryd.pinned (OpenSpec.upto greedyGasSpec)

/-- 'hopperlaw12.GreedyHeads', WHERE WHAT IT READS IS OF BULK AT MOST 1048576: true; the input reads as it did. -/
def greedyHeadsUptoRow : OpenClaim := { program := "ytohikebnlamnnaadoor", sum := "e370dcf41da42fac63a39537d802fb61bc0ca541b2562400ece2c21e0ac77fe1", func := "hopper/hopperlaw12.GreedyHeads", spec := "greedyHeads", unfollowed := true, recurses := true, named := ["hopper/txn.most"], apart := false, laid := [("hopper/txn.most", laid_hopper_txn_most)], narrowed := true }
def GreedyHeadsUptoSaid : Prop := greedyHeadsUptoRow.holds Tryd.pinned (OpenSpec.upto greedyHeadsSpec)

end Rows
end Go.Proofs.YtohikebnlamnnaaDoor
