/-
  NARROWER THAN 'FOR EVERY INPUT', by the rows' own cells (each row's printed sentence says how): PoolDoes: laid · PoolRuns: laid · PoolMay: laid · PoolEvents: laid · PoolBack: laid · PoolEvicts: laid · LookPool: laid · TaskAlone: laid · TaskKeeps: laid · TaskTwo: laid · TaskPoint: laid.
  DERIVED. THE GIVEN ROWS OF THIS SEAT. 11 by the template 'for every input the law returns true; each argument reads behind the call as it read before'; 0 by the template 'total and deterministic' (their statements: YtofpmnkkimgkfaaGreatDoorTotals.lean).
  GIVEN WITH THE SEED: the statements are not yours to turn. If you find one false, say at which input.
  Laid BY PROGRAM, IN A SANDBOX (cutbox-rows.mjs): the forced cells as the released guide's own fill.sh prints them over the translation 2fab82d69f0639df… (all of the seat's roots in one cut). By AI agents, Wed Nov 11 2026. No macro, syntax, notation, axiom, sorry.
-/
import Derived.Test.YtofpmnkkimgkfaaGreatDoorChecked
import GoSem.Claim
import GoSem.ClaimJoined
import GoSem.ClaimMapViews
import Derived.JoinedTies
import Derived.KernelRfl
namespace Go.Proofs.YtofpmnkkimgkfaaGreatDoor
/- THE CELL 'sum', in the pinned program and in every row, IS THE sha256 OF THE DUMP (.gsa) THAT YtofpmnkkimgkfaaGreatDoorProg.lean LOADS. Nothing in Lean hashes anything: it is a label: what it is worth is what the hold of that sum in a sandbox is worth. -/
noncomputable def Tryz.pinned : Pinned := { name := "ytofpmnkkimgkfaagreatdoor", sum := "2fab82d69f0639dfdbea74342711a731333a7264e6715c0c9f3a324a022fb015", checked := Tryz.checked }
namespace Rows
def none {H : Type} : Left H := { results := [], args := [] }

/- WHAT THE LISTED PACKAGE-LEVEL VARIABLES READ AS WHEN THE CALL BEGINS. Each datum BY PROGRAM (the guide's laid-datum.mjs) off the statement by which the dump's own 'gosem.cut.vars' lays the variable. In a bare row this is a premise. The card (YtofpmnkkimgkfaaGreatDoorCards.lean) ties it to the program's text. -/
def laid_hopper_txn_most {H : Type} : DataW H := .agg [.lit (.int .i64 255), .lit (.int .i64 4294967295), .lit (.int .i64 1099511627776), .lit (.int .i64 1099511627776), .lit (.int .i64 1073741824)]

/-- 'hopperlaw13.PoolDoes': WHATEVER THE INPUT: true; the input reads as it did. -/
def poolDoesSpec : ChangeSpec := { name := "poolDoes", fn := fun _ => fun
  | [d1, d2, d3] => { results := [.lit (.bool true)], args := [d1, d2, d3] }
  | _ => none }
def poolDoesRow : OpenClaim := { program := "ytofpmnkkimgkfaagreatdoor", sum := "2fab82d69f0639dfdbea74342711a731333a7264e6715c0c9f3a324a022fb015", func := "hopper/hopperlaw13.PoolDoes", spec := "poolDoes", unfollowed := true, recurses := true, named := ["hopper/txn.most"], apart := false, laid := [("hopper/txn.most", laid_hopper_txn_most)] }
def PoolDoesSaid : Prop := poolDoesRow.holds Tryz.pinned (OpenSpec.ofChange poolDoesSpec)

/-- ITS FALSE NEIGHBOUR: 'it returns false'. Refute it at one input. -/
def poolDoesWrong : ChangeSpec := { name := "poolDoes", fn := fun _ => fun
  | [d1, d2, d3] => { results := [.lit (.bool false)], args := [d1, d2, d3] }
  | _ => none }
def PoolDoesWrongFalsely : Prop := poolDoesRow.holds Tryz.pinned (OpenSpec.ofChange poolDoesWrong)

/-- 'hopperlaw13.PoolRuns': WHATEVER THE INPUT: true; the input reads as it did. -/
def poolRunsSpec : ChangeSpec := { name := "poolRuns", fn := fun _ => fun
  | [d1, d2] => { results := [.lit (.bool true)], args := [d1, d2] }
  | _ => none }
def poolRunsRow : OpenClaim := { program := "ytofpmnkkimgkfaagreatdoor", sum := "2fab82d69f0639dfdbea74342711a731333a7264e6715c0c9f3a324a022fb015", func := "hopper/hopperlaw13.PoolRuns", spec := "poolRuns", unfollowed := true, recurses := true, named := ["hopper/txn.most"], apart := false, laid := [("hopper/txn.most", laid_hopper_txn_most)] }
def PoolRunsSaid : Prop := poolRunsRow.holds Tryz.pinned (OpenSpec.ofChange poolRunsSpec)

/-- ITS FALSE NEIGHBOUR: 'it returns false'. Refute it at one input. -/
def poolRunsWrong : ChangeSpec := { name := "poolRuns", fn := fun _ => fun
  | [d1, d2] => { results := [.lit (.bool false)], args := [d1, d2] }
  | _ => none }
def PoolRunsWrongFalsely : Prop := poolRunsRow.holds Tryz.pinned (OpenSpec.ofChange poolRunsWrong)

/-- 'hopperlaw13.PoolMay': WHATEVER THE INPUT: true; the input reads as it did. -/
def poolMaySpec : ChangeSpec := { name := "poolMay", fn := fun _ => fun
  | [d1, d2, d3] => { results := [.lit (.bool true)], args := [d1, d2, d3] }
  | _ => none }
def poolMayRow : OpenClaim := { program := "ytofpmnkkimgkfaagreatdoor", sum := "2fab82d69f0639dfdbea74342711a731333a7264e6715c0c9f3a324a022fb015", func := "hopper/hopperlaw13.PoolMay", spec := "poolMay", unfollowed := true, recurses := true, named := ["hopper/txn.most"], apart := false, laid := [("hopper/txn.most", laid_hopper_txn_most)] }
def PoolMaySaid : Prop := poolMayRow.holds Tryz.pinned (OpenSpec.ofChange poolMaySpec)

/-- ITS FALSE NEIGHBOUR: 'it returns false'. Refute it at one input. -/
def poolMayWrong : ChangeSpec := { name := "poolMay", fn := fun _ => fun
  | [d1, d2, d3] => { results := [.lit (.bool false)], args := [d1, d2, d3] }
  | _ => none }
def PoolMayWrongFalsely : Prop := poolMayRow.holds Tryz.pinned (OpenSpec.ofChange poolMayWrong)

/-- 'hopperlaw13.PoolEvents': WHATEVER THE INPUT: true; the input reads as it did. -/
def poolEventsSpec : ChangeSpec := { name := "poolEvents", fn := fun _ => fun
  | [d1, d2] => { results := [.lit (.bool true)], args := [d1, d2] }
  | _ => none }
def poolEventsRow : OpenClaim := { program := "ytofpmnkkimgkfaagreatdoor", sum := "2fab82d69f0639dfdbea74342711a731333a7264e6715c0c9f3a324a022fb015", func := "hopper/hopperlaw13.PoolEvents", spec := "poolEvents", unfollowed := true, recurses := true, named := ["hopper/txn.most"], apart := false, laid := [("hopper/txn.most", laid_hopper_txn_most)] }
def PoolEventsSaid : Prop := poolEventsRow.holds Tryz.pinned (OpenSpec.ofChange poolEventsSpec)

/-- ITS FALSE NEIGHBOUR: 'it returns false'. Refute it at one input. -/
def poolEventsWrong : ChangeSpec := { name := "poolEvents", fn := fun _ => fun
  | [d1, d2] => { results := [.lit (.bool false)], args := [d1, d2] }
  | _ => none }
def PoolEventsWrongFalsely : Prop := poolEventsRow.holds Tryz.pinned (OpenSpec.ofChange poolEventsWrong)

/-- 'hopperlaw13.PoolBack': WHATEVER THE INPUT: true; the input reads as it did. -/
def poolBackSpec : ChangeSpec := { name := "poolBack", fn := fun _ => fun
  | [d1, d2, d3] => { results := [.lit (.bool true)], args := [d1, d2, d3] }
  | _ => none }
def poolBackRow : OpenClaim := { program := "ytofpmnkkimgkfaagreatdoor", sum := "2fab82d69f0639dfdbea74342711a731333a7264e6715c0c9f3a324a022fb015", func := "hopper/hopperlaw13.PoolBack", spec := "poolBack", unfollowed := true, recurses := true, named := ["hopper/txn.most"], apart := false, laid := [("hopper/txn.most", laid_hopper_txn_most)] }
def PoolBackSaid : Prop := poolBackRow.holds Tryz.pinned (OpenSpec.ofChange poolBackSpec)

/-- ITS FALSE NEIGHBOUR: 'it returns false'. Refute it at one input. -/
def poolBackWrong : ChangeSpec := { name := "poolBack", fn := fun _ => fun
  | [d1, d2, d3] => { results := [.lit (.bool false)], args := [d1, d2, d3] }
  | _ => none }
def PoolBackWrongFalsely : Prop := poolBackRow.holds Tryz.pinned (OpenSpec.ofChange poolBackWrong)

/-- 'hopperlaw13.PoolEvicts': WHATEVER THE INPUT: true; the input reads as it did. -/
def poolEvictsSpec : ChangeSpec := { name := "poolEvicts", fn := fun _ => fun
  | [d1, d2] => { results := [.lit (.bool true)], args := [d1, d2] }
  | _ => none }
def poolEvictsRow : OpenClaim := { program := "ytofpmnkkimgkfaagreatdoor", sum := "2fab82d69f0639dfdbea74342711a731333a7264e6715c0c9f3a324a022fb015", func := "hopper/hopperlaw13.PoolEvicts", spec := "poolEvicts", unfollowed := true, recurses := true, named := ["hopper/txn.most"], apart := false, laid := [("hopper/txn.most", laid_hopper_txn_most)] }
def PoolEvictsSaid : Prop := poolEvictsRow.holds Tryz.pinned (OpenSpec.ofChange poolEvictsSpec)

/-- ITS FALSE NEIGHBOUR: 'it returns false'. Refute it at one input. -/
def poolEvictsWrong : ChangeSpec := { name := "poolEvicts", fn := fun _ => fun
  | [d1, d2] => { results := [.lit (.bool false)], args := [d1, d2] }
  | _ => none }
def PoolEvictsWrongFalsely : Prop := poolEvictsRow.holds Tryz.pinned (OpenSpec.ofChange poolEvictsWrong)

/-- 'hopperlaw15.LookPool': WHATEVER THE INPUT: true; the input reads as it did. -/
def lookPoolSpec : ChangeSpec := { name := "lookPool", fn := fun _ => fun
  | [d1, d2, d3] => { results := [.lit (.bool true)], args := [d1, d2, d3] }
  | _ => none }
def lookPoolRow : OpenClaim := { program := "ytofpmnkkimgkfaagreatdoor", sum := "2fab82d69f0639dfdbea74342711a731333a7264e6715c0c9f3a324a022fb015", func := "hopper/hopperlaw15.LookPool", spec := "lookPool", unfollowed := true, recurses := true, named := ["hopper/txn.most"], apart := false, laid := [("hopper/txn.most", laid_hopper_txn_most)] }
def LookPoolSaid : Prop := lookPoolRow.holds Tryz.pinned (OpenSpec.ofChange lookPoolSpec)

/-- ITS FALSE NEIGHBOUR: 'it returns false'. Refute it at one input. -/
def lookPoolWrong : ChangeSpec := { name := "lookPool", fn := fun _ => fun
  | [d1, d2, d3] => { results := [.lit (.bool false)], args := [d1, d2, d3] }
  | _ => none }
def LookPoolWrongFalsely : Prop := lookPoolRow.holds Tryz.pinned (OpenSpec.ofChange lookPoolWrong)

/-- 'hopperlaw16.TaskAlone': WHATEVER THE INPUT: true; the input reads as it did. -/
def taskAloneSpec : ChangeSpec := { name := "taskAlone", fn := fun _ => fun
  | [d1, d2, d3] => { results := [.lit (.bool true)], args := [d1, d2, d3] }
  | _ => none }
def taskAloneRow : OpenClaim := { program := "ytofpmnkkimgkfaagreatdoor", sum := "2fab82d69f0639dfdbea74342711a731333a7264e6715c0c9f3a324a022fb015", func := "hopper/hopperlaw16.TaskAlone", spec := "taskAlone", unfollowed := true, recurses := true, named := ["hopper/txn.most"], apart := false, laid := [("hopper/txn.most", laid_hopper_txn_most)] }
def TaskAloneSaid : Prop := taskAloneRow.holds Tryz.pinned (OpenSpec.ofChange taskAloneSpec)

/-- ITS FALSE NEIGHBOUR: 'it returns false'. Refute it at one input. -/
def taskAloneWrong : ChangeSpec := { name := "taskAlone", fn := fun _ => fun
  | [d1, d2, d3] => { results := [.lit (.bool false)], args := [d1, d2, d3] }
  | _ => none }
def TaskAloneWrongFalsely : Prop := taskAloneRow.holds Tryz.pinned (OpenSpec.ofChange taskAloneWrong)

/-- 'hopperlaw16.TaskKeeps': WHATEVER THE INPUT: true; the input reads as it did. -/
def taskKeepsSpec : ChangeSpec := { name := "taskKeeps", fn := fun _ => fun
  | [d1, d2, d3] => { results := [.lit (.bool true)], args := [d1, d2, d3] }
  | _ => none }
def taskKeepsRow : OpenClaim := { program := "ytofpmnkkimgkfaagreatdoor", sum := "2fab82d69f0639dfdbea74342711a731333a7264e6715c0c9f3a324a022fb015", func := "hopper/hopperlaw16.TaskKeeps", spec := "taskKeeps", unfollowed := true, recurses := true, named := ["hopper/txn.most"], apart := false, laid := [("hopper/txn.most", laid_hopper_txn_most)] }
def TaskKeepsSaid : Prop := taskKeepsRow.holds Tryz.pinned (OpenSpec.ofChange taskKeepsSpec)

/-- ITS FALSE NEIGHBOUR: 'it returns false'. Refute it at one input. -/
def taskKeepsWrong : ChangeSpec := { name := "taskKeeps", fn := fun _ => fun
  | [d1, d2, d3] => { results := [.lit (.bool false)], args := [d1, d2, d3] }
  | _ => none }
def TaskKeepsWrongFalsely : Prop := taskKeepsRow.holds Tryz.pinned (OpenSpec.ofChange taskKeepsWrong)

/-- 'hopperlaw16.TaskTwo': WHATEVER THE INPUT: true; the input reads as it did. -/
def taskTwoSpec : ChangeSpec := { name := "taskTwo", fn := fun _ => fun
  | [d1, d2, d3] => { results := [.lit (.bool true)], args := [d1, d2, d3] }
  | _ => none }
def taskTwoRow : OpenClaim := { program := "ytofpmnkkimgkfaagreatdoor", sum := "2fab82d69f0639dfdbea74342711a731333a7264e6715c0c9f3a324a022fb015", func := "hopper/hopperlaw16.TaskTwo", spec := "taskTwo", unfollowed := true, recurses := true, named := ["hopper/txn.most"], apart := false, laid := [("hopper/txn.most", laid_hopper_txn_most)] }
def TaskTwoSaid : Prop := taskTwoRow.holds Tryz.pinned (OpenSpec.ofChange taskTwoSpec)

/-- ITS FALSE NEIGHBOUR: 'it returns false'. Refute it at one input. -/
def taskTwoWrong : ChangeSpec := { name := "taskTwo", fn := fun _ => fun
  | [d1, d2, d3] => { results := [.lit (.bool false)], args := [d1, d2, d3] }
  | _ => none }
def TaskTwoWrongFalsely : Prop := taskTwoRow.holds Tryz.pinned (OpenSpec.ofChange taskTwoWrong)

/-- 'hopperlaw16.TaskPoint': WHATEVER THE INPUT: true; the input reads as it did. -/
def taskPointSpec : ChangeSpec := { name := "taskPoint", fn := fun _ => fun
  | [d1, d2, d3] => { results := [.lit (.bool true)], args := [d1, d2, d3] }
  | _ => none }
def taskPointRow : OpenClaim := { program := "ytofpmnkkimgkfaagreatdoor", sum := "2fab82d69f0639dfdbea74342711a731333a7264e6715c0c9f3a324a022fb015", func := "hopper/hopperlaw16.TaskPoint", spec := "taskPoint", unfollowed := true, recurses := true, named := ["hopper/txn.most"], apart := false, laid := [("hopper/txn.most", laid_hopper_txn_most)] }
def TaskPointSaid : Prop := taskPointRow.holds Tryz.pinned (OpenSpec.ofChange taskPointSpec)

/-- ITS FALSE NEIGHBOUR: 'it returns false'. Refute it at one input. -/
def taskPointWrong : ChangeSpec := { name := "taskPoint", fn := fun _ => fun
  | [d1, d2, d3] => { results := [.lit (.bool false)], args := [d1, d2, d3] }
  | _ => none }
def TaskPointWrongFalsely : Prop := taskPointRow.holds Tryz.pinned (OpenSpec.ofChange taskPointWrong)

/- THE SECOND FORM. 'bulk': how many values and letters a reading holds, each counted each time it is reached (what is shared counts as often as it is met; a slice's spare places count too). A statement '..UptoSaid' is the law's where the arguments, and the package variables that the reading takes, are together of bulk at most 1048576: NARROWER than '..Said'. Prove '..Said' where nothing that the law and all that it calls make is longer than what came in: it says more and counts as full. Else prove '..UptoSaid'. A law counts once. -/
mutual
def uptoBulk {H : Type} : DataW H → Nat
  | .lit (.string bytes) => bytes.length + 1
  | .lit _ => 1
  | .nil => 1
  | .ptr d => uptoBulk d + 1
  | .slice elems spare => uptoBulkAll elems + uptoBulkAll spare + 1
  | .agg parts => uptoBulkAll parts + 1
  | .iface _ d => uptoBulk d + 1
  | .map entries => uptoBulkEntries entries + 1
  | .held _ => 1
def uptoBulkAll {H : Type} : List (DataW H) → Nat
  | [] => 0
  | d :: r => uptoBulk d + uptoBulkAll r
def uptoBulkEntries {H : Type} : List (Lit × DataW H) → Nat
  | [] => 0
  | x :: r => uptoBulkEntry x + uptoBulkEntries r
def uptoBulkEntry {H : Type} : Lit × DataW H → Nat
  | (.string bytes, d) => bytes.length + uptoBulk d + 1
  | (_, d) => uptoBulk d + 1
 end
def uptoSmall : (H : Type) → List (DataW H) → Bool := fun _ ds => decide (uptoBulkAll ds ≤ 1048576)
def OpenSpec.upto (s : _root_.Go.ChangeSpec) : _root_.Go.OpenSpec := { _root_.Go.OpenSpec.ofChange s with cond := some uptoSmall }

/-- 'hopperlaw13.PoolDoes', WHERE WHAT IT READS IS OF BULK AT MOST 1048576: true; the input reads as it did. -/
def poolDoesUptoRow : OpenClaim := { program := "ytofpmnkkimgkfaagreatdoor", sum := "2fab82d69f0639dfdbea74342711a731333a7264e6715c0c9f3a324a022fb015", func := "hopper/hopperlaw13.PoolDoes", spec := "poolDoes", unfollowed := true, recurses := true, named := ["hopper/txn.most"], apart := false, laid := [("hopper/txn.most", laid_hopper_txn_most)], narrowed := true }
def PoolDoesUptoSaid : Prop := poolDoesUptoRow.holds Tryz.pinned (OpenSpec.upto poolDoesSpec)

/-- 'hopperlaw13.PoolRuns', WHERE WHAT IT READS IS OF BULK AT MOST 1048576: true; the input reads as it did. -/
def poolRunsUptoRow : OpenClaim := { program := "ytofpmnkkimgkfaagreatdoor", sum := "2fab82d69f0639dfdbea74342711a731333a7264e6715c0c9f3a324a022fb015", func := "hopper/hopperlaw13.PoolRuns", spec := "poolRuns", unfollowed := true, recurses := true, named := ["hopper/txn.most"], apart := false, laid := [("hopper/txn.most", laid_hopper_txn_most)], narrowed := true }
def PoolRunsUptoSaid : Prop := poolRunsUptoRow.holds Tryz.pinned (OpenSpec.upto poolRunsSpec)

/-- 'hopperlaw13.PoolMay', WHERE WHAT IT READS IS OF BULK AT MOST 1048576: true; the input reads as it did. -/
def poolMayUptoRow : OpenClaim := { program := "ytofpmnkkimgkfaagreatdoor", sum := "2fab82d69f0639dfdbea74342711a731333a7264e6715c0c9f3a324a022fb015", func := "hopper/hopperlaw13.PoolMay", spec := "poolMay", unfollowed := true, recurses := true, named := ["hopper/txn.most"], apart := false, laid := [("hopper/txn.most", laid_hopper_txn_most)], narrowed := true }
def PoolMayUptoSaid : Prop := poolMayUptoRow.holds Tryz.pinned (OpenSpec.upto poolMaySpec)

/-- 'hopperlaw13.PoolEvents', WHERE WHAT IT READS IS OF BULK AT MOST 1048576: true; the input reads as it did. -/
def poolEventsUptoRow : OpenClaim := { program := "ytofpmnkkimgkfaagreatdoor", sum := "2fab82d69f0639dfdbea74342711a731333a7264e6715c0c9f3a324a022fb015", func := "hopper/hopperlaw13.PoolEvents", spec := "poolEvents", unfollowed := true, recurses := true, named := ["hopper/txn.most"], apart := false, laid := [("hopper/txn.most", laid_hopper_txn_most)], narrowed := true }
def PoolEventsUptoSaid : Prop := poolEventsUptoRow.holds Tryz.pinned (OpenSpec.upto poolEventsSpec)

/-- 'hopperlaw13.PoolBack', WHERE WHAT IT READS IS OF BULK AT MOST 1048576: true; the input reads as it did. -/
def poolBackUptoRow : OpenClaim := { program := "ytofpmnkkimgkfaagreatdoor", sum := "2fab82d69f0639dfdbea74342711a731333a7264e6715c0c9f3a324a022fb015", func := "hopper/hopperlaw13.PoolBack", spec := "poolBack", unfollowed := true, recurses := true, named := ["hopper/txn.most"], apart := false, laid := [("hopper/txn.most", laid_hopper_txn_most)], narrowed := true }
def PoolBackUptoSaid : Prop := poolBackUptoRow.holds Tryz.pinned (OpenSpec.upto poolBackSpec)

/-- 'hopperlaw13.PoolEvicts', WHERE WHAT IT READS IS OF BULK AT MOST 1048576: true; the input reads as it did. -/
def poolEvictsUptoRow : OpenClaim := { program := "ytofpmnkkimgkfaagreatdoor", sum := "2fab82d69f0639dfdbea74342711a731333a7264e6715c0c9f3a324a022fb015", func := "hopper/hopperlaw13.PoolEvicts", spec := "poolEvicts", unfollowed := true, recurses := true, named := ["hopper/txn.most"], apart := false, laid := [("hopper/txn.most", laid_hopper_txn_most)], narrowed := true }
def PoolEvictsUptoSaid : Prop := poolEvictsUptoRow.holds Tryz.pinned (OpenSpec.upto poolEvictsSpec)

/-- 'hopperlaw15.LookPool', WHERE WHAT IT READS IS OF BULK AT MOST 1048576: true; the input reads as it did. -/
def lookPoolUptoRow : OpenClaim := { program := "ytofpmnkkimgkfaagreatdoor", sum := "2fab82d69f0639dfdbea74342711a731333a7264e6715c0c9f3a324a022fb015", func := "hopper/hopperlaw15.LookPool", spec := "lookPool", unfollowed := true, recurses := true, named := ["hopper/txn.most"], apart := false, laid := [("hopper/txn.most", laid_hopper_txn_most)], narrowed := true }
def LookPoolUptoSaid : Prop := lookPoolUptoRow.holds Tryz.pinned (OpenSpec.upto lookPoolSpec)

/-- 'hopperlaw16.TaskAlone', WHERE WHAT IT READS IS OF BULK AT MOST 1048576: true; the input reads as it did. -/
def taskAloneUptoRow : OpenClaim := { program := "ytofpmnkkimgkfaagreatdoor", sum := "2fab82d69f0639dfdbea74342711a731333a7264e6715c0c9f3a324a022fb015", func := "hopper/hopperlaw16.TaskAlone", spec := "taskAlone", unfollowed := true, recurses := true, named := ["hopper/txn.most"], apart := false, laid := [("hopper/txn.most", laid_hopper_txn_most)], narrowed := true }
def TaskAloneUptoSaid : Prop := taskAloneUptoRow.holds Tryz.pinned (OpenSpec.upto taskAloneSpec)

/-- 'hopperlaw16.TaskKeeps', WHERE WHAT IT READS IS OF BULK AT MOST 1048576: true; the input reads as it did. -/
def taskKeepsUptoRow : OpenClaim := { program := "ytofpmnkkimgkfaagreatdoor", sum := "2fab82d69f0639dfdbea74342711a731333a7264e6715c0c9f3a324a022fb015", func := "hopper/hopperlaw16.TaskKeeps", spec := "taskKeeps", unfollowed := true, recurses := true, named := ["hopper/txn.most"], apart := false, laid := [("hopper/txn.most", laid_hopper_txn_most)], narrowed := true }
def TaskKeepsUptoSaid : Prop := taskKeepsUptoRow.holds Tryz.pinned (OpenSpec.upto taskKeepsSpec)

/-- 'hopperlaw16.TaskTwo', WHERE WHAT IT READS IS OF BULK AT MOST 1048576: true; the input reads as it did. -/
def taskTwoUptoRow : OpenClaim := { program := "ytofpmnkkimgkfaagreatdoor", sum := "2fab82d69f0639dfdbea74342711a731333a7264e6715c0c9f3a324a022fb015", func := "hopper/hopperlaw16.TaskTwo", spec := "taskTwo", unfollowed := true, recurses := true, named := ["hopper/txn.most"], apart := false, laid := [("hopper/txn.most", laid_hopper_txn_most)], narrowed := true }
def TaskTwoUptoSaid : Prop := taskTwoUptoRow.holds Tryz.pinned (OpenSpec.upto taskTwoSpec)

/-- 'hopperlaw16.TaskPoint', WHERE WHAT IT READS IS OF BULK AT MOST 1048576: true; the input reads as it did. -/
def taskPointUptoRow : OpenClaim := { program := "ytofpmnkkimgkfaagreatdoor", sum := "2fab82d69f0639dfdbea74342711a731333a7264e6715c0c9f3a324a022fb015", func := "hopper/hopperlaw16.TaskPoint", spec := "taskPoint", unfollowed := true, recurses := true, named := ["hopper/txn.most"], apart := false, laid := [("hopper/txn.most", laid_hopper_txn_most)], narrowed := true }
def TaskPointUptoSaid : Prop := taskPointUptoRow.holds Tryz.pinned (OpenSpec.upto taskPointSpec)

end Rows
end Go.Proofs.YtofpmnkkimgkfaaGreatDoor
