/-
  NARROWER THAN 'FOR EVERY INPUT', by the rows' own cells (each row's printed sentence says how): TxnTells: laid · TxnBack: laid · TxnBetter: laid · TxnLine: laid · TxnBytes: laid · TxnTips: laid · TxnSlots: laid.
  DERIVED. THE GIVEN ROWS OF THIS SEAT. 7 by the template 'for every input the law returns true; each argument reads behind the call as it read before'; 0 by the template 'total and deterministic' (their statements: YtfhbcnomlgiciaaDoorTotals.lean).
  GIVEN WITH THE SEED: the statements are not yours to turn. If you find one false, say at which input.
  Laid BY PROGRAM, IN A SANDBOX (cutbox-rows.mjs): the forced cells as the released guide's own fill.sh prints them over the translation 71632349ac95509a… (all of the seat's roots in one cut). By AI agents, Wed Nov 11 2026. No macro, syntax, notation, axiom, sorry.
-/
import Derived.Test.YtfhbcnomlgiciaaDoorChecked
import GoSem.Claim
import GoSem.ClaimJoined
import GoSem.ClaimMapViews
import Derived.JoinedTies
import Derived.KernelRfl
namespace Go.Proofs.YtfhbcnomlgiciaaDoor
/- THE CELL 'sum', in the pinned program and in every row, IS THE sha256 OF THE DUMP (.gsa) THAT YtfhbcnomlgiciaaDoorProg.lean LOADS. Nothing in Lean hashes anything: it is a label: what it is worth is what the hold of that sum in a sandbox is worth. -/
noncomputable def Tryd.pinned : Pinned := { name := "ytfhbcnomlgiciaadoor", sum := "71632349ac95509aebd7909f9d8f04332b0902ff03565e0ea4573c448526d9b4", checked := Tryd.checked }
namespace Rows
def none {H : Type} : Left H := { results := [], args := [] }

/- WHAT THE LISTED PACKAGE-LEVEL VARIABLES READ AS WHEN THE CALL BEGINS. Each datum BY PROGRAM (the guide's laid-datum.mjs) off the statement by which the dump's own 'gosem.cut.vars' lays the variable. In a bare row this is a premise. The card (YtfhbcnomlgiciaaDoorCards.lean) ties it to the program's text. -/
def laid_hopper_txn_most {H : Type} : DataW H := .agg [.lit (.int .i64 255), .lit (.int .i64 4294967295), .lit (.int .i64 1099511627776), .lit (.int .i64 1099511627776), .lit (.int .i64 1073741824)]

/-- 'hopperlaw04.TxnTells': WHATEVER THE INPUT: true; the input reads as it did. -/
def txnTellsSpec : ChangeSpec := { name := "txnTells", fn := fun _ => fun
  | [d1, d2] => { results := [.lit (.bool true)], args := [d1, d2] }
  | _ => none }
def txnTellsRow : OpenClaim := { program := "ytfhbcnomlgiciaadoor", sum := "71632349ac95509aebd7909f9d8f04332b0902ff03565e0ea4573c448526d9b4", func := "hopper/hopperlaw04.TxnTells", spec := "txnTells", recurses := true, named := ["hopper/txn.most"], apart := false, laid := [("hopper/txn.most", laid_hopper_txn_most)] }
def TxnTellsSaid : Prop := txnTellsRow.holds Tryd.pinned (OpenSpec.ofChange txnTellsSpec)

/-- ITS FALSE NEIGHBOUR: 'it returns false'. Refute it at one input. -/
def txnTellsWrong : ChangeSpec := { name := "txnTells", fn := fun _ => fun
  | [d1, d2] => { results := [.lit (.bool false)], args := [d1, d2] }
  | _ => none }
def TxnTellsWrongFalsely : Prop := txnTellsRow.holds Tryd.pinned (OpenSpec.ofChange txnTellsWrong)

/-- 'hopperlaw04.TxnBack': WHATEVER THE INPUT: true; the input reads as it did. -/
def txnBackSpec : ChangeSpec := { name := "txnBack", fn := fun _ => fun
  | [d1, d2] => { results := [.lit (.bool true)], args := [d1, d2] }
  | _ => none }
def txnBackRow : OpenClaim := { program := "ytfhbcnomlgiciaadoor", sum := "71632349ac95509aebd7909f9d8f04332b0902ff03565e0ea4573c448526d9b4", func := "hopper/hopperlaw04.TxnBack", spec := "txnBack", named := ["hopper/txn.most"], apart := false, laid := [("hopper/txn.most", laid_hopper_txn_most)] }
def TxnBackSaid : Prop := txnBackRow.holds Tryd.pinned (OpenSpec.ofChange txnBackSpec)

/-- ITS FALSE NEIGHBOUR: 'it returns false'. Refute it at one input. -/
def txnBackWrong : ChangeSpec := { name := "txnBack", fn := fun _ => fun
  | [d1, d2] => { results := [.lit (.bool false)], args := [d1, d2] }
  | _ => none }
def TxnBackWrongFalsely : Prop := txnBackRow.holds Tryd.pinned (OpenSpec.ofChange txnBackWrong)

/-- 'hopperlaw04.TxnBetter': WHATEVER THE INPUT: true; the input reads as it did. -/
def txnBetterSpec : ChangeSpec := { name := "txnBetter", fn := fun _ => fun
  | [d1, d2] => { results := [.lit (.bool true)], args := [d1, d2] }
  | _ => none }
def txnBetterRow : OpenClaim := { program := "ytfhbcnomlgiciaadoor", sum := "71632349ac95509aebd7909f9d8f04332b0902ff03565e0ea4573c448526d9b4", func := "hopper/hopperlaw04.TxnBetter", spec := "txnBetter", recurses := true, named := ["hopper/txn.most"], apart := false, laid := [("hopper/txn.most", laid_hopper_txn_most)] }
def TxnBetterSaid : Prop := txnBetterRow.holds Tryd.pinned (OpenSpec.ofChange txnBetterSpec)

/-- ITS FALSE NEIGHBOUR: 'it returns false'. Refute it at one input. -/
def txnBetterWrong : ChangeSpec := { name := "txnBetter", fn := fun _ => fun
  | [d1, d2] => { results := [.lit (.bool false)], args := [d1, d2] }
  | _ => none }
def TxnBetterWrongFalsely : Prop := txnBetterRow.holds Tryd.pinned (OpenSpec.ofChange txnBetterWrong)

/-- 'hopperlaw04.TxnLine': WHATEVER THE INPUT: true; the input reads as it did. -/
def txnLineSpec : ChangeSpec := { name := "txnLine", fn := fun _ => fun
  | [d1, d2, d3] => { results := [.lit (.bool true)], args := [d1, d2, d3] }
  | _ => none }
def txnLineRow : OpenClaim := { program := "ytfhbcnomlgiciaadoor", sum := "71632349ac95509aebd7909f9d8f04332b0902ff03565e0ea4573c448526d9b4", func := "hopper/hopperlaw04.TxnLine", spec := "txnLine", named := ["hopper/txn.most"], apart := false, laid := [("hopper/txn.most", laid_hopper_txn_most)] }
def TxnLineSaid : Prop := txnLineRow.holds Tryd.pinned (OpenSpec.ofChange txnLineSpec)

/-- ITS FALSE NEIGHBOUR: 'it returns false'. Refute it at one input. -/
def txnLineWrong : ChangeSpec := { name := "txnLine", fn := fun _ => fun
  | [d1, d2, d3] => { results := [.lit (.bool false)], args := [d1, d2, d3] }
  | _ => none }
def TxnLineWrongFalsely : Prop := txnLineRow.holds Tryd.pinned (OpenSpec.ofChange txnLineWrong)

/-- 'hopperlaw04.TxnBytes': WHATEVER THE INPUT: true; the input reads as it did. -/
def txnBytesSpec : ChangeSpec := { name := "txnBytes", fn := fun _ => fun
  | [d1, d2, d3] => { results := [.lit (.bool true)], args := [d1, d2, d3] }
  | _ => none }
def txnBytesRow : OpenClaim := { program := "ytfhbcnomlgiciaadoor", sum := "71632349ac95509aebd7909f9d8f04332b0902ff03565e0ea4573c448526d9b4", func := "hopper/hopperlaw04.TxnBytes", spec := "txnBytes", named := ["hopper/txn.most"], apart := false, laid := [("hopper/txn.most", laid_hopper_txn_most)] }
def TxnBytesSaid : Prop := txnBytesRow.holds Tryd.pinned (OpenSpec.ofChange txnBytesSpec)

/-- ITS FALSE NEIGHBOUR: 'it returns false'. Refute it at one input. -/
def txnBytesWrong : ChangeSpec := { name := "txnBytes", fn := fun _ => fun
  | [d1, d2, d3] => { results := [.lit (.bool false)], args := [d1, d2, d3] }
  | _ => none }
def TxnBytesWrongFalsely : Prop := txnBytesRow.holds Tryd.pinned (OpenSpec.ofChange txnBytesWrong)

/-- 'hopperlaw04.TxnTips': WHATEVER THE INPUT: true; the input reads as it did. -/
def txnTipsSpec : ChangeSpec := { name := "txnTips", fn := fun _ => fun
  | [d1, d2] => { results := [.lit (.bool true)], args := [d1, d2] }
  | _ => none }
def txnTipsRow : OpenClaim := { program := "ytfhbcnomlgiciaadoor", sum := "71632349ac95509aebd7909f9d8f04332b0902ff03565e0ea4573c448526d9b4", func := "hopper/hopperlaw04.TxnTips", spec := "txnTips", named := ["hopper/txn.most"], apart := false, laid := [("hopper/txn.most", laid_hopper_txn_most)] }
def TxnTipsSaid : Prop := txnTipsRow.holds Tryd.pinned (OpenSpec.ofChange txnTipsSpec)

/-- ITS FALSE NEIGHBOUR: 'it returns false'. Refute it at one input. -/
def txnTipsWrong : ChangeSpec := { name := "txnTips", fn := fun _ => fun
  | [d1, d2] => { results := [.lit (.bool false)], args := [d1, d2] }
  | _ => none }
def TxnTipsWrongFalsely : Prop := txnTipsRow.holds Tryd.pinned (OpenSpec.ofChange txnTipsWrong)

/-- 'hopperlaw04.TxnSlots': WHATEVER THE INPUT: true; the input reads as it did. -/
def txnSlotsSpec : ChangeSpec := { name := "txnSlots", fn := fun _ => fun
  | [d1, d2] => { results := [.lit (.bool true)], args := [d1, d2] }
  | _ => none }
def txnSlotsRow : OpenClaim := { program := "ytfhbcnomlgiciaadoor", sum := "71632349ac95509aebd7909f9d8f04332b0902ff03565e0ea4573c448526d9b4", func := "hopper/hopperlaw04.TxnSlots", spec := "txnSlots", named := ["hopper/txn.most"], apart := false, laid := [("hopper/txn.most", laid_hopper_txn_most)] }
def TxnSlotsSaid : Prop := txnSlotsRow.holds Tryd.pinned (OpenSpec.ofChange txnSlotsSpec)

/-- ITS FALSE NEIGHBOUR: 'it returns false'. Refute it at one input. -/
def txnSlotsWrong : ChangeSpec := { name := "txnSlots", fn := fun _ => fun
  | [d1, d2] => { results := [.lit (.bool false)], args := [d1, d2] }
  | _ => none }
def TxnSlotsWrongFalsely : Prop := txnSlotsRow.holds Tryd.pinned (OpenSpec.ofChange txnSlotsWrong)

/- THE SECOND FORM. 'bulk': how many values and letters a reading holds, each counted each time it is reached (what is shared counts as often as it is met; a slice's spare places count too). A statement '..UptoSaid' is the law's where the arguments, and the package variables that the reading takes, are together of bulk at most 1048576: NARROWER than '..Said'. Prove '..Said' where nothing that the law and all that it calls make is longer than what came in: it says more and counts as full. Else prove '..UptoSaid'. A law counts once. -/
mutual
def uptoBulk {H : Type} : DataW H → Nat
  | .lit (.string bytes) => bytes.length + 1
  | .lit _ => 1
  | .nil => 1
  | .ptr d => uptoBulk d + 1
  | .slice elems spare => uptoBulkAll elems + uptoBulkAll spare + 1
  | .agg parts => uptoBulkAll parts + 1
  | .iface _ d => uptoBulk d + 1
  | .map entries => uptoBulkEntries entries + 1
  | .held _ => 1
def uptoBulkAll {H : Type} : List (DataW H) → Nat
  | [] => 0
  | d :: r => uptoBulk d + uptoBulkAll r
def uptoBulkEntries {H : Type} : List (Lit × DataW H) → Nat
  | [] => 0
  | x :: r => uptoBulkEntry x + uptoBulkEntries r
def uptoBulkEntry {H : Type} : Lit × DataW H → Nat
  | (.string bytes, d) => bytes.length + uptoBulk d + 1
  | (_, d) => uptoBulk d + 1
 end
def uptoSmall : (H : Type) → List (DataW H) → Bool := fun _ ds => decide (uptoBulkAll ds ≤ 1048576)
def OpenSpec.upto (s : _root_.Go.ChangeSpec) : _root_.Go.OpenSpec := { _root_.Go.OpenSpec.ofChange s with cond := some uptoSmall }

/-- 'hopperlaw04.TxnTells', WHERE WHAT IT READS IS OF BULK AT MOST 1048576: true; the input reads as it did. -/
def txnTellsUptoRow : OpenClaim := { program := "ytfhbcnomlgiciaadoor", sum := "71632349ac95509aebd7909f9d8f04332b0902ff03565e0ea4573c448526d9b4", func := "hopper/hopperlaw04.TxnTells", spec := "txnTells", recurses := true, named := ["hopper/txn.most"], apart := false, laid := [("hopper/txn.most", laid_hopper_txn_most)], narrowed := true }
def TxnTellsUptoSaid : Prop := txnTellsUptoRow.holds Tryd.pinned (OpenSpec.upto txnTellsSpec)

/-- 'hopperlaw04.TxnBack', WHERE WHAT IT READS IS OF BULK AT MOST 1048576: true; the input reads as it did. -/
def txnBackUptoRow : OpenClaim := { program := "ytfhbcnomlgiciaadoor", sum := "71632349ac95509aebd7909f9d8f04332b0902ff03565e0ea4573c448526d9b4", func := "hopper/hopperlaw04.TxnBack", spec := "txnBack", named := ["hopper/txn.most"], apart := false, laid := [("hopper/txn.most", laid_hopper_txn_most)], narrowed := true }
def TxnBackUptoSaid : Prop := txnBackUptoRow.holds Tryd.pinned (OpenSpec.upto txnBackSpec)

/-- 'hopperlaw04.TxnBetter', WHERE WHAT IT READS IS OF BULK AT MOST 1048576: true; the input reads as it did. -/
def txnBetterUptoRow : OpenClaim := { program := "ytfhbcnomlgiciaadoor", sum := "71632349ac95509aebd7909f9d8f04332b0902ff03565e0ea4573c448526d9b4", func := "hopper/hopperlaw04.TxnBetter", spec := "txnBetter", recurses := true, named := ["hopper/txn.most"], apart := false, laid := [("hopper/txn.most", laid_hopper_txn_most)], narrowed := true }
def TxnBetterUptoSaid : Prop := txnBetterUptoRow.holds Tryd.pinned (OpenSpec.upto txnBetterSpec)

/-- 'hopperlaw04.TxnLine', WHERE WHAT IT READS IS OF BULK AT MOST 1048576: true; the input reads as it did. -/
def txnLineUptoRow : OpenClaim := { program := "ytfhbcnomlgiciaadoor", sum := "71632349ac95509aebd7909f9d8f04332b0902ff03565e0ea4573c448526d9b4", func := "hopper/hopperlaw04.TxnLine", spec := "txnLine", named := ["hopper/txn.most"], apart := false, laid := [("hopper/txn.most", laid_hopper_txn_most)], narrowed := true }
def TxnLineUptoSaid : Prop := txnLineUptoRow.holds Tryd.pinned (OpenSpec.upto txnLineSpec)

/-- 'hopperlaw04.TxnBytes', WHERE WHAT IT READS IS OF BULK AT MOST 1048576: true; the input reads as it did. -/
def txnBytesUptoRow : OpenClaim := { program := "ytfhbcnomlgiciaadoor", sum := "71632349ac95509aebd7909f9d8f04332b0902ff03565e0ea4573c448526d9b4", func := "hopper/hopperlaw04.TxnBytes", spec := "txnBytes", named := ["hopper/txn.most"], apart := false, laid := [("hopper/txn.most", laid_hopper_txn_most)], narrowed := true }
def TxnBytesUptoSaid : Prop := txnBytesUptoRow.holds Tryd.pinned (OpenSpec.upto txnBytesSpec)

/-- 'hopperlaw04.TxnTips', WHERE WHAT IT READS IS OF BULK AT MOST 1048576: true; the input reads as it did. -/
def txnTipsUptoRow : OpenClaim := { program := "ytfhbcnomlgiciaadoor", sum := "71632349ac95509aebd7909f9d8f04332b0902ff03565e0ea4573c448526d9b4", func := "hopper/hopperlaw04.TxnTips", spec := "txnTips", named := ["hopper/txn.most"], apart := false, laid := [("hopper/txn.most", laid_hopper_txn_most)], narrowed := true }
def TxnTipsUptoSaid : Prop := txnTipsUptoRow.holds Tryd.pinned (OpenSpec.upto txnTipsSpec)

/-- 'hopperlaw04.TxnSlots', WHERE WHAT IT READS IS OF BULK AT MOST 1048576: true; the input reads as it did. -/
def txnSlotsUptoRow : OpenClaim := { program := "ytfhbcnomlgiciaadoor", sum := "71632349ac95509aebd7909f9d8f04332b0902ff03565e0ea4573c448526d9b4", func := "hopper/hopperlaw04.TxnSlots", spec := "txnSlots", named := ["hopper/txn.most"], apart := false, laid := [("hopper/txn.most", laid_hopper_txn_most)], narrowed := true }
def TxnSlotsUptoSaid : Prop := txnSlotsUptoRow.holds Tryd.pinned (OpenSpec.upto txnSlotsSpec)

end Rows
end Go.Proofs.YtfhbcnomlgiciaaDoor
