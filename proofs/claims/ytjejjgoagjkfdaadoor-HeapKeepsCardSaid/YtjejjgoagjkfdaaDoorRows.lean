/-
  NARROWER THAN 'FOR EVERY INPUT', by the rows' own cells (each row's printed sentence says how): QueueTells: laid · QueueChanges: laid · QueueMay: laid · QueueReady: laid · QueuePuts: laid · QueueBases: laid · QueuePlaces: laid · HeapTells: laid · HeapStays: laid · HeapOrders: laid · HeapWorst: laid · HeapPops: laid · HeapKeeps: laid.
  DERIVED. THE GIVEN ROWS OF THIS SEAT. 13 by the template 'for every input the law returns true; each argument reads behind the call as it read before'; 0 by the template 'total and deterministic' (their statements: YtjejjgoagjkfdaaDoorTotals.lean).
  GIVEN WITH THE SEED: the statements are not yours to turn. If you find one false, say at which input.
  Laid BY PROGRAM, IN A SANDBOX (cutbox-rows.mjs): the forced cells as the released guide's own fill.sh prints them over the translation a7cb1def01ff9ec1… (all of the seat's roots in one cut). By AI agents, Wed Nov 11 2026. No macro, syntax, notation, axiom, sorry.
-/
import Derived.Test.YtjejjgoagjkfdaaDoorChecked
import GoSem.Claim
import GoSem.ClaimJoined
import GoSem.ClaimMapViews
import Derived.JoinedTies
import Derived.KernelRfl
namespace Go.Proofs.YtjejjgoagjkfdaaDoor
/- THE CELL 'sum', in the pinned program and in every row, IS THE sha256 OF THE DUMP (.gsa) THAT YtjejjgoagjkfdaaDoorProg.lean LOADS. Nothing in Lean hashes anything: it is a label: what it is worth is what the hold of that sum in a sandbox is worth. -/
noncomputable def Tryd.pinned : Pinned := { name := "ytjejjgoagjkfdaadoor", sum := "a7cb1def01ff9ec11c2ff2ffd5c29a59dd4076eedbb65b0f6fa668dfe84d5bb7", checked := Tryd.checked }
namespace Rows
def none {H : Type} : Left H := { results := [], args := [] }

/- WHAT THE LISTED PACKAGE-LEVEL VARIABLES READ AS WHEN THE CALL BEGINS. Each datum BY PROGRAM (the guide's laid-datum.mjs) off the statement by which the dump's own 'gosem.cut.vars' lays the variable. In a bare row this is a premise. The card (YtjejjgoagjkfdaaDoorCards.lean) ties it to the program's text. -/
def laid_hopper_txn_most {H : Type} : DataW H := .agg [.lit (.int .i64 255), .lit (.int .i64 4294967295), .lit (.int .i64 1099511627776), .lit (.int .i64 1099511627776), .lit (.int .i64 1073741824)]

/-- 'hopperlaw05.QueueTells': WHATEVER THE INPUT: true; the input reads as it did. -/
def queueTellsSpec : ChangeSpec := { name := "queueTells", fn := fun _ => fun
  | [d1, d2, d3] => { results := [.lit (.bool true)], args := [d1, d2, d3] }
  | _ => none }
def queueTellsRow : OpenClaim := { program := "ytjejjgoagjkfdaadoor", sum := "a7cb1def01ff9ec11c2ff2ffd5c29a59dd4076eedbb65b0f6fa668dfe84d5bb7", func := "hopper/hopperlaw05.QueueTells", spec := "queueTells", unfollowed := true, recurses := true, named := ["hopper/txn.most"], apart := false, laid := [("hopper/txn.most", laid_hopper_txn_most)] }
def QueueTellsSaid : Prop := queueTellsRow.holds Tryd.pinned (OpenSpec.ofChange queueTellsSpec)

/-- ITS FALSE NEIGHBOUR: 'it returns false'. Refute it at one input. -/
def queueTellsWrong : ChangeSpec := { name := "queueTells", fn := fun _ => fun
  | [d1, d2, d3] => { results := [.lit (.bool false)], args := [d1, d2, d3] }
  | _ => none }
def QueueTellsWrongFalsely : Prop := queueTellsRow.holds Tryd.pinned (OpenSpec.ofChange queueTellsWrong)

/-- 'hopperlaw05.QueueChanges': WHATEVER THE INPUT: true; the input reads as it did. -/
def queueChangesSpec : ChangeSpec := { name := "queueChanges", fn := fun _ => fun
  | [d1, d2, d3] => { results := [.lit (.bool true)], args := [d1, d2, d3] }
  | _ => none }
def queueChangesRow : OpenClaim := { program := "ytjejjgoagjkfdaadoor", sum := "a7cb1def01ff9ec11c2ff2ffd5c29a59dd4076eedbb65b0f6fa668dfe84d5bb7", func := "hopper/hopperlaw05.QueueChanges", spec := "queueChanges", unfollowed := true, recurses := true, named := ["hopper/txn.most"], apart := false, laid := [("hopper/txn.most", laid_hopper_txn_most)] }
def QueueChangesSaid : Prop := queueChangesRow.holds Tryd.pinned (OpenSpec.ofChange queueChangesSpec)

/-- ITS FALSE NEIGHBOUR: 'it returns false'. Refute it at one input. -/
def queueChangesWrong : ChangeSpec := { name := "queueChanges", fn := fun _ => fun
  | [d1, d2, d3] => { results := [.lit (.bool false)], args := [d1, d2, d3] }
  | _ => none }
def QueueChangesWrongFalsely : Prop := queueChangesRow.holds Tryd.pinned (OpenSpec.ofChange queueChangesWrong)

/-- 'hopperlaw05.QueueMay': WHATEVER THE INPUT: true; the input reads as it did. -/
def queueMaySpec : ChangeSpec := { name := "queueMay", fn := fun _ => fun
  | [d1, d2, d3] => { results := [.lit (.bool true)], args := [d1, d2, d3] }
  | _ => none }
def queueMayRow : OpenClaim := { program := "ytjejjgoagjkfdaadoor", sum := "a7cb1def01ff9ec11c2ff2ffd5c29a59dd4076eedbb65b0f6fa668dfe84d5bb7", func := "hopper/hopperlaw05.QueueMay", spec := "queueMay", unfollowed := true, recurses := true, named := ["hopper/txn.most"], apart := false, laid := [("hopper/txn.most", laid_hopper_txn_most)] }
def QueueMaySaid : Prop := queueMayRow.holds Tryd.pinned (OpenSpec.ofChange queueMaySpec)

/-- ITS FALSE NEIGHBOUR: 'it returns false'. Refute it at one input. -/
def queueMayWrong : ChangeSpec := { name := "queueMay", fn := fun _ => fun
  | [d1, d2, d3] => { results := [.lit (.bool false)], args := [d1, d2, d3] }
  | _ => none }
def QueueMayWrongFalsely : Prop := queueMayRow.holds Tryd.pinned (OpenSpec.ofChange queueMayWrong)

/-- 'hopperlaw05.QueueReady': WHATEVER THE INPUT: true; the input reads as it did. -/
def queueReadySpec : ChangeSpec := { name := "queueReady", fn := fun _ => fun
  | [d1, d2] => { results := [.lit (.bool true)], args := [d1, d2] }
  | _ => none }
def queueReadyRow : OpenClaim := { program := "ytjejjgoagjkfdaadoor", sum := "a7cb1def01ff9ec11c2ff2ffd5c29a59dd4076eedbb65b0f6fa668dfe84d5bb7", func := "hopper/hopperlaw05.QueueReady", spec := "queueReady", unfollowed := true, recurses := true, named := ["hopper/txn.most"], apart := false, laid := [("hopper/txn.most", laid_hopper_txn_most)] }
def QueueReadySaid : Prop := queueReadyRow.holds Tryd.pinned (OpenSpec.ofChange queueReadySpec)

/-- ITS FALSE NEIGHBOUR: 'it returns false'. Refute it at one input. -/
def queueReadyWrong : ChangeSpec := { name := "queueReady", fn := fun _ => fun
  | [d1, d2] => { results := [.lit (.bool false)], args := [d1, d2] }
  | _ => none }
def QueueReadyWrongFalsely : Prop := queueReadyRow.holds Tryd.pinned (OpenSpec.ofChange queueReadyWrong)

/-- 'hopperlaw05.QueuePuts': WHATEVER THE INPUT: true; the input reads as it did. -/
def queuePutsSpec : ChangeSpec := { name := "queuePuts", fn := fun _ => fun
  | [d1, d2, d3] => { results := [.lit (.bool true)], args := [d1, d2, d3] }
  | _ => none }
def queuePutsRow : OpenClaim := { program := "ytjejjgoagjkfdaadoor", sum := "a7cb1def01ff9ec11c2ff2ffd5c29a59dd4076eedbb65b0f6fa668dfe84d5bb7", func := "hopper/hopperlaw05.QueuePuts", spec := "queuePuts", unfollowed := true, recurses := true, named := ["hopper/txn.most"], apart := false, laid := [("hopper/txn.most", laid_hopper_txn_most)] }
def QueuePutsSaid : Prop := queuePutsRow.holds Tryd.pinned (OpenSpec.ofChange queuePutsSpec)

/-- ITS FALSE NEIGHBOUR: 'it returns false'. Refute it at one input. -/
def queuePutsWrong : ChangeSpec := { name := "queuePuts", fn := fun _ => fun
  | [d1, d2, d3] => { results := [.lit (.bool false)], args := [d1, d2, d3] }
  | _ => none }
def QueuePutsWrongFalsely : Prop := queuePutsRow.holds Tryd.pinned (OpenSpec.ofChange queuePutsWrong)

/-- 'hopperlaw05.QueueBases': WHATEVER THE INPUT: true; the input reads as it did. -/
def queueBasesSpec : ChangeSpec := { name := "queueBases", fn := fun _ => fun
  | [d1, d2, d3] => { results := [.lit (.bool true)], args := [d1, d2, d3] }
  | _ => none }
def queueBasesRow : OpenClaim := { program := "ytjejjgoagjkfdaadoor", sum := "a7cb1def01ff9ec11c2ff2ffd5c29a59dd4076eedbb65b0f6fa668dfe84d5bb7", func := "hopper/hopperlaw05.QueueBases", spec := "queueBases", unfollowed := true, recurses := true, named := ["hopper/txn.most"], apart := false, laid := [("hopper/txn.most", laid_hopper_txn_most)] }
def QueueBasesSaid : Prop := queueBasesRow.holds Tryd.pinned (OpenSpec.ofChange queueBasesSpec)

/-- ITS FALSE NEIGHBOUR: 'it returns false'. Refute it at one input. -/
def queueBasesWrong : ChangeSpec := { name := "queueBases", fn := fun _ => fun
  | [d1, d2, d3] => { results := [.lit (.bool false)], args := [d1, d2, d3] }
  | _ => none }
def QueueBasesWrongFalsely : Prop := queueBasesRow.holds Tryd.pinned (OpenSpec.ofChange queueBasesWrong)

/-- 'hopperlaw05.QueuePlaces': WHATEVER THE INPUT: true; the input reads as it did. -/
def queuePlacesSpec : ChangeSpec := { name := "queuePlaces", fn := fun _ => fun
  | [d1, d2, d3] => { results := [.lit (.bool true)], args := [d1, d2, d3] }
  | _ => none }
def queuePlacesRow : OpenClaim := { program := "ytjejjgoagjkfdaadoor", sum := "a7cb1def01ff9ec11c2ff2ffd5c29a59dd4076eedbb65b0f6fa668dfe84d5bb7", func := "hopper/hopperlaw05.QueuePlaces", spec := "queuePlaces", unfollowed := true, recurses := true, named := ["hopper/txn.most"], apart := false, laid := [("hopper/txn.most", laid_hopper_txn_most)] }
def QueuePlacesSaid : Prop := queuePlacesRow.holds Tryd.pinned (OpenSpec.ofChange queuePlacesSpec)

/-- ITS FALSE NEIGHBOUR: 'it returns false'. Refute it at one input. -/
def queuePlacesWrong : ChangeSpec := { name := "queuePlaces", fn := fun _ => fun
  | [d1, d2, d3] => { results := [.lit (.bool false)], args := [d1, d2, d3] }
  | _ => none }
def QueuePlacesWrongFalsely : Prop := queuePlacesRow.holds Tryd.pinned (OpenSpec.ofChange queuePlacesWrong)

/-- 'hopperlaw06.HeapTells': WHATEVER THE INPUT: true; the input reads as it did. -/
def heapTellsSpec : ChangeSpec := { name := "heapTells", fn := fun _ => fun
  | [d1, d2] => { results := [.lit (.bool true)], args := [d1, d2] }
  | _ => none }
def heapTellsRow : OpenClaim := { program := "ytjejjgoagjkfdaadoor", sum := "a7cb1def01ff9ec11c2ff2ffd5c29a59dd4076eedbb65b0f6fa668dfe84d5bb7", func := "hopper/hopperlaw06.HeapTells", spec := "heapTells", unfollowed := true, recurses := true, named := ["hopper/txn.most"], apart := false, laid := [("hopper/txn.most", laid_hopper_txn_most)] }
def HeapTellsSaid : Prop := heapTellsRow.holds Tryd.pinned (OpenSpec.ofChange heapTellsSpec)

/-- ITS FALSE NEIGHBOUR: 'it returns false'. Refute it at one input. -/
def heapTellsWrong : ChangeSpec := { name := "heapTells", fn := fun _ => fun
  | [d1, d2] => { results := [.lit (.bool false)], args := [d1, d2] }
  | _ => none }
def HeapTellsWrongFalsely : Prop := heapTellsRow.holds Tryd.pinned (OpenSpec.ofChange heapTellsWrong)

/-- 'hopperlaw06.HeapStays': WHATEVER THE INPUT: true; the input reads as it did. -/
def heapStaysSpec : ChangeSpec := { name := "heapStays", fn := fun _ => fun
  | [d1, d2] => { results := [.lit (.bool true)], args := [d1, d2] }
  | _ => none }
def heapStaysRow : OpenClaim := { program := "ytjejjgoagjkfdaadoor", sum := "a7cb1def01ff9ec11c2ff2ffd5c29a59dd4076eedbb65b0f6fa668dfe84d5bb7", func := "hopper/hopperlaw06.HeapStays", spec := "heapStays", unfollowed := true, recurses := true, named := ["hopper/txn.most"], apart := false, laid := [("hopper/txn.most", laid_hopper_txn_most)] }
def HeapStaysSaid : Prop := heapStaysRow.holds Tryd.pinned (OpenSpec.ofChange heapStaysSpec)

/-- ITS FALSE NEIGHBOUR: 'it returns false'. Refute it at one input. -/
def heapStaysWrong : ChangeSpec := { name := "heapStays", fn := fun _ => fun
  | [d1, d2] => { results := [.lit (.bool false)], args := [d1, d2] }
  | _ => none }
def HeapStaysWrongFalsely : Prop := heapStaysRow.holds Tryd.pinned (OpenSpec.ofChange heapStaysWrong)

/-- 'hopperlaw06.HeapOrders': WHATEVER THE INPUT: true; the input reads as it did. -/
def heapOrdersSpec : ChangeSpec := { name := "heapOrders", fn := fun _ => fun
  | [d] => { results := [.lit (.bool true)], args := [d] }
  | _ => none }
def heapOrdersRow : OpenClaim := { program := "ytjejjgoagjkfdaadoor", sum := "a7cb1def01ff9ec11c2ff2ffd5c29a59dd4076eedbb65b0f6fa668dfe84d5bb7", func := "hopper/hopperlaw06.HeapOrders", spec := "heapOrders", unfollowed := true, recurses := true, named := ["hopper/txn.most"], apart := false, laid := [("hopper/txn.most", laid_hopper_txn_most)] }
def HeapOrdersSaid : Prop := heapOrdersRow.holds Tryd.pinned (OpenSpec.ofChange heapOrdersSpec)

/-- ITS FALSE NEIGHBOUR: 'it returns false'. Refute it at one input. -/
def heapOrdersWrong : ChangeSpec := { name := "heapOrders", fn := fun _ => fun
  | [d] => { results := [.lit (.bool false)], args := [d] }
  | _ => none }
def HeapOrdersWrongFalsely : Prop := heapOrdersRow.holds Tryd.pinned (OpenSpec.ofChange heapOrdersWrong)

/-- 'hopperlaw06.HeapWorst': WHATEVER THE INPUT: true; the input reads as it did. -/
def heapWorstSpec : ChangeSpec := { name := "heapWorst", fn := fun _ => fun
  | [d] => { results := [.lit (.bool true)], args := [d] }
  | _ => none }
def heapWorstRow : OpenClaim := { program := "ytjejjgoagjkfdaadoor", sum := "a7cb1def01ff9ec11c2ff2ffd5c29a59dd4076eedbb65b0f6fa668dfe84d5bb7", func := "hopper/hopperlaw06.HeapWorst", spec := "heapWorst", unfollowed := true, recurses := true, named := ["hopper/txn.most"], apart := false, laid := [("hopper/txn.most", laid_hopper_txn_most)] }
def HeapWorstSaid : Prop := heapWorstRow.holds Tryd.pinned (OpenSpec.ofChange heapWorstSpec)

/-- ITS FALSE NEIGHBOUR: 'it returns false'. Refute it at one input. -/
def heapWorstWrong : ChangeSpec := { name := "heapWorst", fn := fun _ => fun
  | [d] => { results := [.lit (.bool false)], args := [d] }
  | _ => none }
def HeapWorstWrongFalsely : Prop := heapWorstRow.holds Tryd.pinned (OpenSpec.ofChange heapWorstWrong)

/-- 'hopperlaw06.HeapPops': WHATEVER THE INPUT: true; the input reads as it did. -/
def heapPopsSpec : ChangeSpec := { name := "heapPops", fn := fun _ => fun
  | [d] => { results := [.lit (.bool true)], args := [d] }
  | _ => none }
def heapPopsRow : OpenClaim := { program := "ytjejjgoagjkfdaadoor", sum := "a7cb1def01ff9ec11c2ff2ffd5c29a59dd4076eedbb65b0f6fa668dfe84d5bb7", func := "hopper/hopperlaw06.HeapPops", spec := "heapPops", unfollowed := true, recurses := true, named := ["hopper/txn.most"], apart := false, laid := [("hopper/txn.most", laid_hopper_txn_most)] }
def HeapPopsSaid : Prop := heapPopsRow.holds Tryd.pinned (OpenSpec.ofChange heapPopsSpec)

/-- ITS FALSE NEIGHBOUR: 'it returns false'. Refute it at one input. -/
def heapPopsWrong : ChangeSpec := { name := "heapPops", fn := fun _ => fun
  | [d] => { results := [.lit (.bool false)], args := [d] }
  | _ => none }
def HeapPopsWrongFalsely : Prop := heapPopsRow.holds Tryd.pinned (OpenSpec.ofChange heapPopsWrong)

/-- 'hopperlaw06.HeapKeeps': WHATEVER THE INPUT: true; the input reads as it did. -/
def heapKeepsSpec : ChangeSpec := { name := "heapKeeps", fn := fun _ => fun
  | [d1, d2] => { results := [.lit (.bool true)], args := [d1, d2] }
  | _ => none }
def heapKeepsRow : OpenClaim := { program := "ytjejjgoagjkfdaadoor", sum := "a7cb1def01ff9ec11c2ff2ffd5c29a59dd4076eedbb65b0f6fa668dfe84d5bb7", func := "hopper/hopperlaw06.HeapKeeps", spec := "heapKeeps", unfollowed := true, recurses := true, named := ["hopper/txn.most"], apart := false, laid := [("hopper/txn.most", laid_hopper_txn_most)] }
def HeapKeepsSaid : Prop := heapKeepsRow.holds Tryd.pinned (OpenSpec.ofChange heapKeepsSpec)

/-- ITS FALSE NEIGHBOUR: 'it returns false'. Refute it at one input. -/
def heapKeepsWrong : ChangeSpec := { name := "heapKeeps", fn := fun _ => fun
  | [d1, d2] => { results := [.lit (.bool false)], args := [d1, d2] }
  | _ => none }
def HeapKeepsWrongFalsely : Prop := heapKeepsRow.holds Tryd.pinned (OpenSpec.ofChange heapKeepsWrong)

/- THE SECOND FORM. 'bulk': how many values and letters a reading holds, each counted each time it is reached (what is shared counts as often as it is met; a slice's spare places count too). A statement '..UptoSaid' is the law's where the arguments, and the package variables that the reading takes, are together of bulk at most 1048576: NARROWER than '..Said'. Prove '..Said' where nothing that the law and all that it calls make is longer than what came in: it says more and counts as full. Else prove '..UptoSaid'. A law counts once. -/
mutual
def uptoBulk {H : Type} : DataW H → Nat
  | .lit (.string bytes) => bytes.length + 1
  | .lit _ => 1
  | .nil => 1
  | .ptr d => uptoBulk d + 1
  | .slice elems spare => uptoBulkAll elems + uptoBulkAll spare + 1
  | .agg parts => uptoBulkAll parts + 1
  | .iface _ d => uptoBulk d + 1
  | .map entries => uptoBulkEntries entries + 1
  | .held _ => 1
def uptoBulkAll {H : Type} : List (DataW H) → Nat
  | [] => 0
  | d :: r => uptoBulk d + uptoBulkAll r
def uptoBulkEntries {H : Type} : List (Lit × DataW H) → Nat
  | [] => 0
  | x :: r => uptoBulkEntry x + uptoBulkEntries r
def uptoBulkEntry {H : Type} : Lit × DataW H → Nat
  | (.string bytes, d) => bytes.length + uptoBulk d + 1
  | (_, d) => uptoBulk d + 1
 end
def uptoSmall : (H : Type) → List (DataW H) → Bool := fun _ ds => decide (uptoBulkAll ds ≤ 1048576)
def OpenSpec.upto (s : _root_.Go.ChangeSpec) : _root_.Go.OpenSpec := { _root_.Go.OpenSpec.ofChange s with cond := some uptoSmall }

/-- 'hopperlaw05.QueueTells', WHERE WHAT IT READS IS OF BULK AT MOST 1048576: true; the input reads as it did. -/
def queueTellsUptoRow : OpenClaim := { program := "ytjejjgoagjkfdaadoor", sum := "a7cb1def01ff9ec11c2ff2ffd5c29a59dd4076eedbb65b0f6fa668dfe84d5bb7", func := "hopper/hopperlaw05.QueueTells", spec := "queueTells", unfollowed := true, recurses := true, named := ["hopper/txn.most"], apart := false, laid := [("hopper/txn.most", laid_hopper_txn_most)], narrowed := true }
def QueueTellsUptoSaid : Prop := queueTellsUptoRow.holds Tryd.pinned (OpenSpec.upto queueTellsSpec)

/-- 'hopperlaw05.QueueChanges', WHERE WHAT IT READS IS OF BULK AT MOST 1048576: true; the input reads as it did. -/
def queueChangesUptoRow : OpenClaim := { program := "ytjejjgoagjkfdaadoor", sum := "a7cb1def01ff9ec11c2ff2ffd5c29a59dd4076eedbb65b0f6fa668dfe84d5bb7", func := "hopper/hopperlaw05.QueueChanges", spec := "queueChanges", unfollowed := true, recurses := true, named := ["hopper/txn.most"], apart := false, laid := [("hopper/txn.most", laid_hopper_txn_most)], narrowed := true }
def QueueChangesUptoSaid : Prop := queueChangesUptoRow.holds Tryd.pinned (OpenSpec.upto queueChangesSpec)

/-- 'hopperlaw05.QueueMay', WHERE WHAT IT READS IS OF BULK AT MOST 1048576: true; the input reads as it did. -/
def queueMayUptoRow : OpenClaim := { program := "ytjejjgoagjkfdaadoor", sum := "a7cb1def01ff9ec11c2ff2ffd5c29a59dd4076eedbb65b0f6fa668dfe84d5bb7", func := "hopper/hopperlaw05.QueueMay", spec := "queueMay", unfollowed := true, recurses := true, named := ["hopper/txn.most"], apart := false, laid := [("hopper/txn.most", laid_hopper_txn_most)], narrowed := true }
def QueueMayUptoSaid : Prop := queueMayUptoRow.holds Tryd.pinned (OpenSpec.upto queueMaySpec)

/-- 'hopperlaw05.QueueReady', WHERE WHAT IT READS IS OF BULK AT MOST 1048576: true; the input reads as it did. -/
def queueReadyUptoRow : OpenClaim := { program := "ytjejjgoagjkfdaadoor", sum := "a7cb1def01ff9ec11c2ff2ffd5c29a59dd4076eedbb65b0f6fa668dfe84d5bb7", func := "hopper/hopperlaw05.QueueReady", spec := "queueReady", unfollowed := true, recurses := true, named := ["hopper/txn.most"], apart := false, laid := [("hopper/txn.most", laid_hopper_txn_most)], narrowed := true }
def QueueReadyUptoSaid : Prop := queueReadyUptoRow.holds Tryd.pinned (OpenSpec.upto queueReadySpec)

/-- 'hopperlaw05.QueuePuts', WHERE WHAT IT READS IS OF BULK AT MOST 1048576: true; the input reads as it did. -/
def queuePutsUptoRow : OpenClaim := { program := "ytjejjgoagjkfdaadoor", sum := "a7cb1def01ff9ec11c2ff2ffd5c29a59dd4076eedbb65b0f6fa668dfe84d5bb7", func := "hopper/hopperlaw05.QueuePuts", spec := "queuePuts", unfollowed := true, recurses := true, named := ["hopper/txn.most"], apart := false, laid := [("hopper/txn.most", laid_hopper_txn_most)], narrowed := true }
def QueuePutsUptoSaid : Prop := queuePutsUptoRow.holds Tryd.pinned (OpenSpec.upto queuePutsSpec)

/-- 'hopperlaw05.QueueBases', WHERE WHAT IT READS IS OF BULK AT MOST 1048576: true; the input reads as it did. -/
def queueBasesUptoRow : OpenClaim := { program := "ytjejjgoagjkfdaadoor", sum := "a7cb1def01ff9ec11c2ff2ffd5c29a59dd4076eedbb65b0f6fa668dfe84d5bb7", func := "hopper/hopperlaw05.QueueBases", spec := "queueBases", unfollowed := true, recurses := true, named := ["hopper/txn.most"], apart := false, laid := [("hopper/txn.most", laid_hopper_txn_most)], narrowed := true }
def QueueBasesUptoSaid : Prop := queueBasesUptoRow.holds Tryd.pinned (OpenSpec.upto queueBasesSpec)

/-- 'hopperlaw05.QueuePlaces', WHERE WHAT IT READS IS OF BULK AT MOST 1048576: true; the input reads as it did. -/
def queuePlacesUptoRow : OpenClaim := { program := "ytjejjgoagjkfdaadoor", sum := "a7cb1def01ff9ec11c2ff2ffd5c29a59dd4076eedbb65b0f6fa668dfe84d5bb7", func := "hopper/hopperlaw05.QueuePlaces", spec := "queuePlaces", unfollowed := true, recurses := true, named := ["hopper/txn.most"], apart := false, laid := [("hopper/txn.most", laid_hopper_txn_most)], narrowed := true }
def QueuePlacesUptoSaid : Prop := queuePlacesUptoRow.holds Tryd.pinned (OpenSpec.upto queuePlacesSpec)

/-- 'hopperlaw06.HeapTells', WHERE WHAT IT READS IS OF BULK AT MOST 1048576: true; the input reads as it did. -/
def heapTellsUptoRow : OpenClaim := { program := "ytjejjgoagjkfdaadoor", sum := "a7cb1def01ff9ec11c2ff2ffd5c29a59dd4076eedbb65b0f6fa668dfe84d5bb7", func := "hopper/hopperlaw06.HeapTells", spec := "heapTells", unfollowed := true, recurses := true, named := ["hopper/txn.most"], apart := false, laid := [("hopper/txn.most", laid_hopper_txn_most)], narrowed := true }
def HeapTellsUptoSaid : Prop := heapTellsUptoRow.holds Tryd.pinned (OpenSpec.upto heapTellsSpec)

/-- 'hopperlaw06.HeapStays', WHERE WHAT IT READS IS OF BULK AT MOST 1048576: true; the input reads as it did. -/
def heapStaysUptoRow : OpenClaim := { program := "ytjejjgoagjkfdaadoor", sum := "a7cb1def01ff9ec11c2ff2ffd5c29a59dd4076eedbb65b0f6fa668dfe84d5bb7", func := "hopper/hopperlaw06.HeapStays", spec := "heapStays", unfollowed := true, recurses := true, named := ["hopper/txn.most"], apart := false, laid := [("hopper/txn.most", laid_hopper_txn_most)], narrowed := true }
def HeapStaysUptoSaid : Prop := heapStaysUptoRow.holds Tryd.pinned (OpenSpec.upto heapStaysSpec)

/-- 'hopperlaw06.HeapOrders', WHERE WHAT IT READS IS OF BULK AT MOST 1048576: true; the input reads as it did. -/
def heapOrdersUptoRow : OpenClaim := { program := "ytjejjgoagjkfdaadoor", sum := "a7cb1def01ff9ec11c2ff2ffd5c29a59dd4076eedbb65b0f6fa668dfe84d5bb7", func := "hopper/hopperlaw06.HeapOrders", spec := "heapOrders", unfollowed := true, recurses := true, named := ["hopper/txn.most"], apart := false, laid := [("hopper/txn.most", laid_hopper_txn_most)], narrowed := true }
def HeapOrdersUptoSaid : Prop := heapOrdersUptoRow.holds Tryd.pinned (OpenSpec.upto heapOrdersSpec)

/-- 'hopperlaw06.HeapWorst', WHERE WHAT IT READS IS OF BULK AT MOST 1048576: true; the input reads as it did. -/
def heapWorstUptoRow : OpenClaim := { program := "ytjejjgoagjkfdaadoor", sum := "a7cb1def01ff9ec11c2ff2ffd5c29a59dd4076eedbb65b0f6fa668dfe84d5bb7", func := "hopper/hopperlaw06.HeapWorst", spec := "heapWorst", unfollowed := true, recurses := true, named := ["hopper/txn.most"], apart := false, laid := [("hopper/txn.most", laid_hopper_txn_most)], narrowed := true }
def HeapWorstUptoSaid : Prop := heapWorstUptoRow.holds Tryd.pinned (OpenSpec.upto heapWorstSpec)

/-- 'hopperlaw06.HeapPops', WHERE WHAT IT READS IS OF BULK AT MOST 1048576: true; the input reads as it did. -/
def heapPopsUptoRow : OpenClaim := { program := "ytjejjgoagjkfdaadoor", sum := "a7cb1def01ff9ec11c2ff2ffd5c29a59dd4076eedbb65b0f6fa668dfe84d5bb7", func := "hopper/hopperlaw06.HeapPops", spec := "heapPops", unfollowed := true, recurses := true, named := ["hopper/txn.most"], apart := false, laid := [("hopper/txn.most", laid_hopper_txn_most)], narrowed := true }
def HeapPopsUptoSaid : Prop := heapPopsUptoRow.holds Tryd.pinned (OpenSpec.upto heapPopsSpec)

/-- 'hopperlaw06.HeapKeeps', WHERE WHAT IT READS IS OF BULK AT MOST 1048576: true; the input reads as it did. -/
def heapKeepsUptoRow : OpenClaim := { program := "ytjejjgoagjkfdaadoor", sum := "a7cb1def01ff9ec11c2ff2ffd5c29a59dd4076eedbb65b0f6fa668dfe84d5bb7", func := "hopper/hopperlaw06.HeapKeeps", spec := "heapKeeps", unfollowed := true, recurses := true, named := ["hopper/txn.most"], apart := false, laid := [("hopper/txn.most", laid_hopper_txn_most)], narrowed := true }
def HeapKeepsUptoSaid : Prop := heapKeepsUptoRow.holds Tryd.pinned (OpenSpec.upto heapKeepsSpec)

end Rows
end Go.Proofs.YtjejjgoagjkfdaaDoor
