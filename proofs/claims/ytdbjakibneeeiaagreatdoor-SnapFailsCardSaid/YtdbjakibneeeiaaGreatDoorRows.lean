/-
  NARROWER THAN 'FOR EVERY INPUT', by the rows' own cells (each row's printed sentence says how): SnapSteps: laid · SnapAlone: laid · SnapKeeps: laid · SnapParts: laid · SnapFails: laid · SnapMarks: laid.
  DERIVED. THE GIVEN ROWS OF THIS SEAT. 6 by the template 'for every input the law returns true; each argument reads behind the call as it read before'; 0 by the template 'total and deterministic' (their statements: YtdbjakibneeeiaaGreatDoorTotals.lean).
  GIVEN WITH THE SEED: the statements are not yours to turn. If you find one false, say at which input.
  Laid BY PROGRAM, IN A SANDBOX (cutbox-rows.mjs): the forced cells as the released guide's own fill.sh prints them over the translation 5c52afc6ff7bd86a… (all of the seat's roots in one cut). By AI agents, Wed Nov 11 2026. No macro, syntax, notation, axiom, sorry.
-/
import Derived.Test.YtdbjakibneeeiaaGreatDoorChecked
import GoSem.Claim
import GoSem.ClaimJoined
import GoSem.ClaimMapViews
import Derived.JoinedTies
import Derived.KernelRfl
namespace Go.Proofs.YtdbjakibneeeiaaGreatDoor
/- THE CELL 'sum', in the pinned program and in every row, IS THE sha256 OF THE DUMP (.gsa) THAT YtdbjakibneeeiaaGreatDoorProg.lean LOADS. Nothing in Lean hashes anything: it is a label: what it is worth is what the hold of that sum in a sandbox is worth. -/
noncomputable def Tryz.pinned : Pinned := { name := "ytdbjakibneeeiaagreatdoor", sum := "5c52afc6ff7bd86a337b0076b8c6eb6cc55e790d6b91bd36d7d540e92741439e", checked := Tryz.checked }
namespace Rows
def none {H : Type} : Left H := { results := [], args := [] }

/- WHAT THE LISTED PACKAGE-LEVEL VARIABLES READ AS WHEN THE CALL BEGINS. Each datum BY PROGRAM (the guide's laid-datum.mjs) off the statement by which the dump's own 'gosem.cut.vars' lays the variable. In a bare row this is a premise. The card (YtdbjakibneeeiaaGreatDoorCards.lean) ties it to the program's text. -/
def laid_hopper_txn_most {H : Type} : DataW H := .agg [.lit (.int .i64 255), .lit (.int .i64 4294967295), .lit (.int .i64 1099511627776), .lit (.int .i64 1099511627776), .lit (.int .i64 1073741824)]

/-- 'hopperlaw18.SnapSteps': WHATEVER THE INPUT: true; the input reads as it did. -/
def snapStepsSpec : ChangeSpec := { name := "snapSteps", fn := fun _ => fun
  | [d1, d2, d3] => { results := [.lit (.bool true)], args := [d1, d2, d3] }
  | _ => none }
def snapStepsRow : OpenClaim := { program := "ytdbjakibneeeiaagreatdoor", sum := "5c52afc6ff7bd86a337b0076b8c6eb6cc55e790d6b91bd36d7d540e92741439e", func := "hopper/hopperlaw18.SnapSteps", spec := "snapSteps", unfollowed := true, recurses := true, named := ["hopper/txn.most"], apart := false, laid := [("hopper/txn.most", laid_hopper_txn_most)] }
def SnapStepsSaid : Prop := snapStepsRow.holds Tryz.pinned (OpenSpec.ofChange snapStepsSpec)

/-- ITS FALSE NEIGHBOUR: 'it returns false'. Refute it at one input. -/
def snapStepsWrong : ChangeSpec := { name := "snapSteps", fn := fun _ => fun
  | [d1, d2, d3] => { results := [.lit (.bool false)], args := [d1, d2, d3] }
  | _ => none }
def SnapStepsWrongFalsely : Prop := snapStepsRow.holds Tryz.pinned (OpenSpec.ofChange snapStepsWrong)

/-- 'hopperlaw18.SnapAlone': WHATEVER THE INPUT: true; the input reads as it did. -/
def snapAloneSpec : ChangeSpec := { name := "snapAlone", fn := fun _ => fun
  | [d1, d2, d3] => { results := [.lit (.bool true)], args := [d1, d2, d3] }
  | _ => none }
def snapAloneRow : OpenClaim := { program := "ytdbjakibneeeiaagreatdoor", sum := "5c52afc6ff7bd86a337b0076b8c6eb6cc55e790d6b91bd36d7d540e92741439e", func := "hopper/hopperlaw18.SnapAlone", spec := "snapAlone", unfollowed := true, recurses := true, named := ["hopper/txn.most"], apart := false, laid := [("hopper/txn.most", laid_hopper_txn_most)] }
def SnapAloneSaid : Prop := snapAloneRow.holds Tryz.pinned (OpenSpec.ofChange snapAloneSpec)

/-- ITS FALSE NEIGHBOUR: 'it returns false'. Refute it at one input. -/
def snapAloneWrong : ChangeSpec := { name := "snapAlone", fn := fun _ => fun
  | [d1, d2, d3] => { results := [.lit (.bool false)], args := [d1, d2, d3] }
  | _ => none }
def SnapAloneWrongFalsely : Prop := snapAloneRow.holds Tryz.pinned (OpenSpec.ofChange snapAloneWrong)

/-- 'hopperlaw18.SnapKeeps': WHATEVER THE INPUT: true; the input reads as it did. -/
def snapKeepsSpec : ChangeSpec := { name := "snapKeeps", fn := fun _ => fun
  | [d1, d2, d3] => { results := [.lit (.bool true)], args := [d1, d2, d3] }
  | _ => none }
def snapKeepsRow : OpenClaim := { program := "ytdbjakibneeeiaagreatdoor", sum := "5c52afc6ff7bd86a337b0076b8c6eb6cc55e790d6b91bd36d7d540e92741439e", func := "hopper/hopperlaw18.SnapKeeps", spec := "snapKeeps", unfollowed := true, recurses := true, named := ["hopper/txn.most"], apart := false, laid := [("hopper/txn.most", laid_hopper_txn_most)] }
def SnapKeepsSaid : Prop := snapKeepsRow.holds Tryz.pinned (OpenSpec.ofChange snapKeepsSpec)

/-- ITS FALSE NEIGHBOUR: 'it returns false'. Refute it at one input. -/
def snapKeepsWrong : ChangeSpec := { name := "snapKeeps", fn := fun _ => fun
  | [d1, d2, d3] => { results := [.lit (.bool false)], args := [d1, d2, d3] }
  | _ => none }
def SnapKeepsWrongFalsely : Prop := snapKeepsRow.holds Tryz.pinned (OpenSpec.ofChange snapKeepsWrong)

/-- 'hopperlaw18.SnapParts': WHATEVER THE INPUT: true; the input reads as it did. -/
def snapPartsSpec : ChangeSpec := { name := "snapParts", fn := fun _ => fun
  | [d1, d2, d3] => { results := [.lit (.bool true)], args := [d1, d2, d3] }
  | _ => none }
def snapPartsRow : OpenClaim := { program := "ytdbjakibneeeiaagreatdoor", sum := "5c52afc6ff7bd86a337b0076b8c6eb6cc55e790d6b91bd36d7d540e92741439e", func := "hopper/hopperlaw18.SnapParts", spec := "snapParts", unfollowed := true, recurses := true, named := ["hopper/txn.most"], apart := false, laid := [("hopper/txn.most", laid_hopper_txn_most)] }
def SnapPartsSaid : Prop := snapPartsRow.holds Tryz.pinned (OpenSpec.ofChange snapPartsSpec)

/-- ITS FALSE NEIGHBOUR: 'it returns false'. Refute it at one input. -/
def snapPartsWrong : ChangeSpec := { name := "snapParts", fn := fun _ => fun
  | [d1, d2, d3] => { results := [.lit (.bool false)], args := [d1, d2, d3] }
  | _ => none }
def SnapPartsWrongFalsely : Prop := snapPartsRow.holds Tryz.pinned (OpenSpec.ofChange snapPartsWrong)

/-- 'hopperlaw18.SnapFails': WHATEVER THE INPUT: true; the input reads as it did. -/
def snapFailsSpec : ChangeSpec := { name := "snapFails", fn := fun _ => fun
  | [d1, d2, d3] => { results := [.lit (.bool true)], args := [d1, d2, d3] }
  | _ => none }
def snapFailsRow : OpenClaim := { program := "ytdbjakibneeeiaagreatdoor", sum := "5c52afc6ff7bd86a337b0076b8c6eb6cc55e790d6b91bd36d7d540e92741439e", func := "hopper/hopperlaw18.SnapFails", spec := "snapFails", unfollowed := true, recurses := true, named := ["hopper/txn.most"], apart := false, laid := [("hopper/txn.most", laid_hopper_txn_most)] }
def SnapFailsSaid : Prop := snapFailsRow.holds Tryz.pinned (OpenSpec.ofChange snapFailsSpec)

/-- ITS FALSE NEIGHBOUR: 'it returns false'. Refute it at one input. -/
def snapFailsWrong : ChangeSpec := { name := "snapFails", fn := fun _ => fun
  | [d1, d2, d3] => { results := [.lit (.bool false)], args := [d1, d2, d3] }
  | _ => none }
def SnapFailsWrongFalsely : Prop := snapFailsRow.holds Tryz.pinned (OpenSpec.ofChange snapFailsWrong)

/-- 'hopperlaw18.SnapMarks': WHATEVER THE INPUT: true; the input reads as it did. -/
def snapMarksSpec : ChangeSpec := { name := "snapMarks", fn := fun _ => fun
  | [d1, d2, d3] => { results := [.lit (.bool true)], args := [d1, d2, d3] }
  | _ => none }
def snapMarksRow : OpenClaim := { program := "ytdbjakibneeeiaagreatdoor", sum := "5c52afc6ff7bd86a337b0076b8c6eb6cc55e790d6b91bd36d7d540e92741439e", func := "hopper/hopperlaw18.SnapMarks", spec := "snapMarks", unfollowed := true, recurses := true, named := ["hopper/txn.most"], apart := false, laid := [("hopper/txn.most", laid_hopper_txn_most)] }
def SnapMarksSaid : Prop := snapMarksRow.holds Tryz.pinned (OpenSpec.ofChange snapMarksSpec)

/-- ITS FALSE NEIGHBOUR: 'it returns false'. Refute it at one input. -/
def snapMarksWrong : ChangeSpec := { name := "snapMarks", fn := fun _ => fun
  | [d1, d2, d3] => { results := [.lit (.bool false)], args := [d1, d2, d3] }
  | _ => none }
def SnapMarksWrongFalsely : Prop := snapMarksRow.holds Tryz.pinned (OpenSpec.ofChange snapMarksWrong)

/- THE SECOND FORM. 'bulk': how many values and letters a reading holds, each counted each time it is reached (what is shared counts as often as it is met; a slice's spare places count too). A statement '..UptoSaid' is the law's where the arguments, and the package variables that the reading takes, are together of bulk at most 1048576: NARROWER than '..Said'. Prove '..Said' where nothing that the law and all that it calls make is longer than what came in: it says more and counts as full. Else prove '..UptoSaid'. A law counts once. -/
mutual
def uptoBulk {H : Type} : DataW H → Nat
  | .lit (.string bytes) => bytes.length + 1
  | .lit _ => 1
  | .nil => 1
  | .ptr d => uptoBulk d + 1
  | .slice elems spare => uptoBulkAll elems + uptoBulkAll spare + 1
  | .agg parts => uptoBulkAll parts + 1
  | .iface _ d => uptoBulk d + 1
  | .map entries => uptoBulkEntries entries + 1
  | .held _ => 1
def uptoBulkAll {H : Type} : List (DataW H) → Nat
  | [] => 0
  | d :: r => uptoBulk d + uptoBulkAll r
def uptoBulkEntries {H : Type} : List (Lit × DataW H) → Nat
  | [] => 0
  | x :: r => uptoBulkEntry x + uptoBulkEntries r
def uptoBulkEntry {H : Type} : Lit × DataW H → Nat
  | (.string bytes, d) => bytes.length + uptoBulk d + 1
  | (_, d) => uptoBulk d + 1
 end
def uptoSmall : (H : Type) → List (DataW H) → Bool := fun _ ds => decide (uptoBulkAll ds ≤ 1048576)
def OpenSpec.upto (s : _root_.Go.ChangeSpec) : _root_.Go.OpenSpec := { _root_.Go.OpenSpec.ofChange s with cond := some uptoSmall }

/-- 'hopperlaw18.SnapSteps', WHERE WHAT IT READS IS OF BULK AT MOST 1048576: true; the input reads as it did. -/
def snapStepsUptoRow : OpenClaim := { program := "ytdbjakibneeeiaagreatdoor", sum := "5c52afc6ff7bd86a337b0076b8c6eb6cc55e790d6b91bd36d7d540e92741439e", func := "hopper/hopperlaw18.SnapSteps", spec := "snapSteps", unfollowed := true, recurses := true, named := ["hopper/txn.most"], apart := false, laid := [("hopper/txn.most", laid_hopper_txn_most)], narrowed := true }
def SnapStepsUptoSaid : Prop := snapStepsUptoRow.holds Tryz.pinned (OpenSpec.upto snapStepsSpec)

/-- 'hopperlaw18.SnapAlone', WHERE WHAT IT READS IS OF BULK AT MOST 1048576: true; the input reads as it did. -/
def snapAloneUptoRow : OpenClaim := { program := "ytdbjakibneeeiaagreatdoor", sum := "5c52afc6ff7bd86a337b0076b8c6eb6cc55e790d6b91bd36d7d540e92741439e", func := "hopper/hopperlaw18.SnapAlone", spec := "snapAlone", unfollowed := true, recurses := true, named := ["hopper/txn.most"], apart := false, laid := [("hopper/txn.most", laid_hopper_txn_most)], narrowed := true }
def SnapAloneUptoSaid : Prop := snapAloneUptoRow.holds Tryz.pinned (OpenSpec.upto snapAloneSpec)

/-- 'hopperlaw18.SnapKeeps', WHERE WHAT IT READS IS OF BULK AT MOST 1048576: true; the input reads as it did. -/
def snapKeepsUptoRow : OpenClaim := { program := "ytdbjakibneeeiaagreatdoor", sum := "5c52afc6ff7bd86a337b0076b8c6eb6cc55e790d6b91bd36d7d540e92741439e", func := "hopper/hopperlaw18.SnapKeeps", spec := "snapKeeps", unfollowed := true, recurses := true, named := ["hopper/txn.most"], apart := false, laid := [("hopper/txn.most", laid_hopper_txn_most)], narrowed := true }
def SnapKeepsUptoSaid : Prop := snapKeepsUptoRow.holds Tryz.pinned (OpenSpec.upto snapKeepsSpec)

/-- 'hopperlaw18.SnapParts', WHERE WHAT IT READS IS OF BULK AT MOST 1048576: true; the input reads as it did. -/
def snapPartsUptoRow : OpenClaim := { program := "ytdbjakibneeeiaagreatdoor", sum := "5c52afc6ff7bd86a337b0076b8c6eb6cc55e790d6b91bd36d7d540e92741439e", func := "hopper/hopperlaw18.SnapParts", spec := "snapParts", unfollowed := true, recurses := true, named := ["hopper/txn.most"], apart := false, laid := [("hopper/txn.most", laid_hopper_txn_most)], narrowed := true }
def SnapPartsUptoSaid : Prop := snapPartsUptoRow.holds Tryz.pinned (OpenSpec.upto snapPartsSpec)

/-- 'hopperlaw18.SnapFails', WHERE WHAT IT READS IS OF BULK AT MOST 1048576: true; the input reads as it did. -/
def snapFailsUptoRow : OpenClaim := { program := "ytdbjakibneeeiaagreatdoor", sum := "5c52afc6ff7bd86a337b0076b8c6eb6cc55e790d6b91bd36d7d540e92741439e", func := "hopper/hopperlaw18.SnapFails", spec := "snapFails", unfollowed := true, recurses := true, named := ["hopper/txn.most"], apart := false, laid := [("hopper/txn.most", laid_hopper_txn_most)], narrowed := true }
def SnapFailsUptoSaid : Prop := snapFailsUptoRow.holds Tryz.pinned (OpenSpec.upto snapFailsSpec)

/-- 'hopperlaw18.SnapMarks', WHERE WHAT IT READS IS OF BULK AT MOST 1048576: true; the input reads as it did. -/
def snapMarksUptoRow : OpenClaim := { program := "ytdbjakibneeeiaagreatdoor", sum := "5c52afc6ff7bd86a337b0076b8c6eb6cc55e790d6b91bd36d7d540e92741439e", func := "hopper/hopperlaw18.SnapMarks", spec := "snapMarks", unfollowed := true, recurses := true, named := ["hopper/txn.most"], apart := false, laid := [("hopper/txn.most", laid_hopper_txn_most)], narrowed := true }
def SnapMarksUptoSaid : Prop := snapMarksUptoRow.holds Tryz.pinned (OpenSpec.upto snapMarksSpec)

end Rows
end Go.Proofs.YtdbjakibneeeiaaGreatDoor
