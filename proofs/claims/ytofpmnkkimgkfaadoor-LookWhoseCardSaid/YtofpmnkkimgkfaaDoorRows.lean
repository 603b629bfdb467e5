/-
  NARROWER THAN 'FOR EVERY INPUT', by the rows' own cells (each row's printed sentence says how): LookTells: laid · LookMay: laid · LookBack: laid · LookWhose: laid.
  DERIVED. THE GIVEN ROWS OF THIS SEAT. 4 by the template 'for every input the law returns true; each argument reads behind the call as it read before'; 0 by the template 'total and deterministic' (their statements: YtofpmnkkimgkfaaDoorTotals.lean).
  GIVEN WITH THE SEED: the statements are not yours to turn. If you find one false, say at which input.
  Laid BY PROGRAM, IN A SANDBOX (cutbox-rows.mjs): the forced cells as the released guide's own fill.sh prints them over the translation d3d90924989e3eb5… (all of the seat's roots in one cut). By AI agents, Wed Nov 11 2026. No macro, syntax, notation, axiom, sorry.
-/
import Derived.Test.YtofpmnkkimgkfaaDoorChecked
import GoSem.Claim
import GoSem.ClaimJoined
import GoSem.ClaimMapViews
import Derived.JoinedTies
import Derived.KernelRfl
namespace Go.Proofs.YtofpmnkkimgkfaaDoor
/- THE CELL 'sum', in the pinned program and in every row, IS THE sha256 OF THE DUMP (.gsa) THAT YtofpmnkkimgkfaaDoorProg.lean LOADS. Nothing in Lean hashes anything: it is a label: what it is worth is what the hold of that sum in a sandbox is worth. -/
noncomputable def Tryd.pinned : Pinned := { name := "ytofpmnkkimgkfaadoor", sum := "d3d90924989e3eb560dd51de5e4ed583d3827a2d8c7ae24b1fdcd4a4d50eb2ff", checked := Tryd.checked }
namespace Rows
def none {H : Type} : Left H := { results := [], args := [] }

/- WHAT THE LISTED PACKAGE-LEVEL VARIABLES READ AS WHEN THE CALL BEGINS. Each datum BY PROGRAM (the guide's laid-datum.mjs) off the statement by which the dump's own 'gosem.cut.vars' lays the variable. In a bare row this is a premise. The card (YtofpmnkkimgkfaaDoorCards.lean) ties it to the program's text. -/
def laid_hopper_txn_most {H : Type} : DataW H := .agg [.lit (.int .i64 255), .lit (.int .i64 4294967295), .lit (.int .i64 1099511627776), .lit (.int .i64 1099511627776), .lit (.int .i64 1073741824)]

/-- 'hopperlaw15.LookTells': WHATEVER THE INPUT: true; the input reads as it did. -/
def lookTellsSpec : ChangeSpec := { name := "lookTells", fn := fun _ => fun
  | [d1, d2, d3] => { results := [.lit (.bool true)], args := [d1, d2, d3] }
  | _ => none }
def lookTellsRow : OpenClaim := { program := "ytofpmnkkimgkfaadoor", sum := "d3d90924989e3eb560dd51de5e4ed583d3827a2d8c7ae24b1fdcd4a4d50eb2ff", func := "hopper/hopperlaw15.LookTells", spec := "lookTells", unfollowed := true, recurses := true, named := ["hopper/txn.most"], apart := false, laid := [("hopper/txn.most", laid_hopper_txn_most)] }
def LookTellsSaid : Prop := lookTellsRow.holds Tryd.pinned (OpenSpec.ofChange lookTellsSpec)

/-- ITS FALSE NEIGHBOUR: 'it returns false'. Refute it at one input. -/
def lookTellsWrong : ChangeSpec := { name := "lookTells", fn := fun _ => fun
  | [d1, d2, d3] => { results := [.lit (.bool false)], args := [d1, d2, d3] }
  | _ => none }
def LookTellsWrongFalsely : Prop := lookTellsRow.holds Tryd.pinned (OpenSpec.ofChange lookTellsWrong)

/-- 'hopperlaw15.LookMay': WHATEVER THE INPUT: true; the input reads as it did. -/
def lookMaySpec : ChangeSpec := { name := "lookMay", fn := fun _ => fun
  | [d1, d2, d3] => { results := [.lit (.bool true)], args := [d1, d2, d3] }
  | _ => none }
def lookMayRow : OpenClaim := { program := "ytofpmnkkimgkfaadoor", sum := "d3d90924989e3eb560dd51de5e4ed583d3827a2d8c7ae24b1fdcd4a4d50eb2ff", func := "hopper/hopperlaw15.LookMay", spec := "lookMay", unfollowed := true, recurses := true, named := ["hopper/txn.most"], apart := false, laid := [("hopper/txn.most", laid_hopper_txn_most)] }
def LookMaySaid : Prop := lookMayRow.holds Tryd.pinned (OpenSpec.ofChange lookMaySpec)

/-- ITS FALSE NEIGHBOUR: 'it returns false'. Refute it at one input. -/
def lookMayWrong : ChangeSpec := { name := "lookMay", fn := fun _ => fun
  | [d1, d2, d3] => { results := [.lit (.bool false)], args := [d1, d2, d3] }
  | _ => none }
def LookMayWrongFalsely : Prop := lookMayRow.holds Tryd.pinned (OpenSpec.ofChange lookMayWrong)

/-- 'hopperlaw15.LookBack': WHATEVER THE INPUT: true; the input reads as it did. -/
def lookBackSpec : ChangeSpec := { name := "lookBack", fn := fun _ => fun
  | [d1, d2, d3] => { results := [.lit (.bool true)], args := [d1, d2, d3] }
  | _ => none }
def lookBackRow : OpenClaim := { program := "ytofpmnkkimgkfaadoor", sum := "d3d90924989e3eb560dd51de5e4ed583d3827a2d8c7ae24b1fdcd4a4d50eb2ff", func := "hopper/hopperlaw15.LookBack", spec := "lookBack", unfollowed := true, recurses := true, named := ["hopper/txn.most"], apart := false, laid := [("hopper/txn.most", laid_hopper_txn_most)] }
def LookBackSaid : Prop := lookBackRow.holds Tryd.pinned (OpenSpec.ofChange lookBackSpec)

/-- ITS FALSE NEIGHBOUR: 'it returns false'. Refute it at one input. -/
def lookBackWrong : ChangeSpec := { name := "lookBack", fn := fun _ => fun
  | [d1, d2, d3] => { results := [.lit (.bool false)], args := [d1, d2, d3] }
  | _ => none }
def LookBackWrongFalsely : Prop := lookBackRow.holds Tryd.pinned (OpenSpec.ofChange lookBackWrong)

/-- 'hopperlaw15.LookWhose': WHATEVER THE INPUT: true; the input reads as it did. -/
def lookWhoseSpec : ChangeSpec := { name := "lookWhose", fn := fun _ => fun
  | [d1, d2] => { results := [.lit (.bool true)], args := [d1, d2] }
  | _ => none }
def lookWhoseRow : OpenClaim := { program := "ytofpmnkkimgkfaadoor", sum := "d3d90924989e3eb560dd51de5e4ed583d3827a2d8c7ae24b1fdcd4a4d50eb2ff", func := "hopper/hopperlaw15.LookWhose", spec := "lookWhose", unfollowed := true, recurses := true, named := ["hopper/txn.most"], apart := false, laid := [("hopper/txn.most", laid_hopper_txn_most)] }
def LookWhoseSaid : Prop := lookWhoseRow.holds Tryd.pinned (OpenSpec.ofChange lookWhoseSpec)

/-- ITS FALSE NEIGHBOUR: 'it returns false'. Refute it at one input. -/
def lookWhoseWrong : ChangeSpec := { name := "lookWhose", fn := fun _ => fun
  | [d1, d2] => { results := [.lit (.bool false)], args := [d1, d2] }
  | _ => none }
def LookWhoseWrongFalsely : Prop := lookWhoseRow.holds Tryd.pinned (OpenSpec.ofChange lookWhoseWrong)

/- THE SECOND FORM. 'bulk': how many values and letters a reading holds, each counted each time it is reached (what is shared counts as often as it is met; a slice's spare places count too). A statement '..UptoSaid' is the law's where the arguments, and the package variables that the reading takes, are together of bulk at most 1048576: NARROWER than '..Said'. Prove '..Said' where nothing that the law and all that it calls make is longer than what came in: it says more and counts as full. Else prove '..UptoSaid'. A law counts once. -/
mutual
def uptoBulk {H : Type} : DataW H → Nat
  | .lit (.string bytes) => bytes.length + 1
  | .lit _ => 1
  | .nil => 1
  | .ptr d => uptoBulk d + 1
  | .slice elems spare => uptoBulkAll elems + uptoBulkAll spare + 1
  | .agg parts => uptoBulkAll parts + 1
  | .iface _ d => uptoBulk d + 1
  | .map entries => uptoBulkEntries entries + 1
  | .held _ => 1
def uptoBulkAll {H : Type} : List (DataW H) → Nat
  | [] => 0
  | d :: r => uptoBulk d + uptoBulkAll r
def uptoBulkEntries {H : Type} : List (Lit × DataW H) → Nat
  | [] => 0
  | x :: r => uptoBulkEntry x + uptoBulkEntries r
def uptoBulkEntry {H : Type} : Lit × DataW H → Nat
  | (.string bytes, d) => bytes.length + uptoBulk d + 1
  | (_, d) => uptoBulk d + 1
 end
def uptoSmall : (H : Type) → List (DataW H) → Bool := fun _ ds => decide (uptoBulkAll ds ≤ 1048576)
def OpenSpec.upto (s : _root_.Go.ChangeSpec) : _root_.Go.OpenSpec := { _root_.Go.OpenSpec.ofChange s with cond := some uptoSmall }

/-- 'hopperlaw15.LookTells', WHERE WHAT IT READS IS OF BULK AT MOST 1048576: true; the input reads as it did. -/
def lookTellsUptoRow : OpenClaim := { program := "ytofpmnkkimgkfaadoor", sum := "d3d90924989e3eb560dd51de5e4ed583d3827a2d8c7ae24b1fdcd4a4d50eb2ff", func := "hopper/hopperlaw15.LookTells", spec := "lookTells", unfollowed := true, recurses := true, named := ["hopper/txn.most"], apart := false, laid := [("hopper/txn.most", laid_hopper_txn_most)], narrowed := true }
def LookTellsUptoSaid : Prop := lookTellsUptoRow.holds Tryd.pinned (OpenSpec.upto lookTellsSpec)

/-- 'hopperlaw15.LookMay', WHERE WHAT IT READS IS OF BULK AT MOST 1048576: true; the input reads as it did. -/
def lookMayUptoRow : OpenClaim := { program := "ytofpmnkkimgkfaadoor", sum := "d3d90924989e3eb560dd51de5e4ed583d3827a2d8c7ae24b1fdcd4a4d50eb2ff", func := "hopper/hopperlaw15.LookMay", spec := "lookMay", unfollowed := true, recurses := true, named := ["hopper/txn.most"], apart := false, laid := [("hopper/txn.most", laid_hopper_txn_most)], narrowed := true }
def LookMayUptoSaid : Prop := lookMayUptoRow.holds Tryd.pinned (OpenSpec.upto lookMaySpec)

/-- 'hopperlaw15.LookBack', WHERE WHAT IT READS IS OF BULK AT MOST 1048576: true; the input reads as it did. -/
def lookBackUptoRow : OpenClaim := { program := "ytofpmnkkimgkfaadoor", sum := "d3d90924989e3eb560dd51de5e4ed583d3827a2d8c7ae24b1fdcd4a4d50eb2ff", func := "hopper/hopperlaw15.LookBack", spec := "lookBack", unfollowed := true, recurses := true, named := ["hopper/txn.most"], apart := false, laid := [("hopper/txn.most", laid_hopper_txn_most)], narrowed := true }
def LookBackUptoSaid : Prop := lookBackUptoRow.holds Tryd.pinned (OpenSpec.upto lookBackSpec)

/-- 'hopperlaw15.LookWhose', WHERE WHAT IT READS IS OF BULK AT MOST 1048576: true; the input reads as it did. -/
def lookWhoseUptoRow : OpenClaim := { program := "ytofpmnkkimgkfaadoor", sum := "d3d90924989e3eb560dd51de5e4ed583d3827a2d8c7ae24b1fdcd4a4d50eb2ff", func := "hopper/hopperlaw15.LookWhose", spec := "lookWhose", unfollowed := true, recurses := true, named := ["hopper/txn.most"], apart := false, laid := [("hopper/txn.most", laid_hopper_txn_most)], narrowed := true }
def LookWhoseUptoSaid : Prop := lookWhoseUptoRow.holds Tryd.pinned (OpenSpec.upto lookWhoseSpec)

end Rows
end Go.Proofs.YtofpmnkkimgkfaaDoor
