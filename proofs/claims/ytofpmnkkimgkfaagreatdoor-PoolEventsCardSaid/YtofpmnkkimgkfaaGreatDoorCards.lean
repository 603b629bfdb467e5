/-
  DERIVED. GIVEN WITH THE SEED: THE CARDS: each row of YtofpmnkkimgkfaaGreatDoorRows.lean that lists a variable, with what it lists TIED to the program's text (the seventh form; the later family's looks); each row that meets fmt, with fmt's text TOLD by the authors' own Lean function (tested against real Go, not proved from fmt's source: count such statements apart). THE CARD IS WHAT COUNTS. Prove the row's statement (the work); the ties are given (YtofpmnkkimgkfaaGreatDoorTie.lean); close each card by the builder's one call (the guide's Derived/Test/ToyasCard.lean, 'card_holds'). Laid BY PROGRAM, IN A SANDBOX (cutbox-door.mjs). By AI agents, Wed Nov 11 2026. No macro, syntax, notation, axiom, sorry.
-/
import Derived.Test.YtofpmnkkimgkfaaGreatDoorRows
import GoSem.ClaimSeven
namespace Go.Proofs.YtofpmnkkimgkfaaGreatDoor
namespace Rows

/-- THE TIED CARD OF 'hopperlaw13.PoolDoes'. -/
def poolDoesCard : Claim7 := { stood := { row := poolDoesRow, standIns := [], harness := (true, "d7a6610ef8b400b1696ea98ccecb2799c1cff8b5abd6bf6f50ead7769ba5ae9c"), looks := false }, kinds := [], alts := [], laidByText := true, laidKinds := [.data], laidTests := true, laidLooks := .later }
def PoolDoesCardSaid : Prop := Claim7.holds Tryz.pinned (.plain (OpenSpec.ofChange poolDoesSpec)) poolDoesCard

/-- THE TIED CARD OF 'hopperlaw13.PoolRuns'. -/
def poolRunsCard : Claim7 := { stood := { row := poolRunsRow, standIns := [], harness := (true, "d7a6610ef8b400b1696ea98ccecb2799c1cff8b5abd6bf6f50ead7769ba5ae9c"), looks := false }, kinds := [], alts := [], laidByText := true, laidKinds := [.data], laidTests := true, laidLooks := .later }
def PoolRunsCardSaid : Prop := Claim7.holds Tryz.pinned (.plain (OpenSpec.ofChange poolRunsSpec)) poolRunsCard

/-- THE TIED CARD OF 'hopperlaw13.PoolMay'. -/
def poolMayCard : Claim7 := { stood := { row := poolMayRow, standIns := [], harness := (true, "d7a6610ef8b400b1696ea98ccecb2799c1cff8b5abd6bf6f50ead7769ba5ae9c"), looks := false }, kinds := [], alts := [], laidByText := true, laidKinds := [.data], laidTests := true, laidLooks := .later }
def PoolMayCardSaid : Prop := Claim7.holds Tryz.pinned (.plain (OpenSpec.ofChange poolMaySpec)) poolMayCard

/-- THE TIED CARD OF 'hopperlaw13.PoolEvents'. -/
def poolEventsCard : Claim7 := { stood := { row := poolEventsRow, standIns := [], harness := (true, "d7a6610ef8b400b1696ea98ccecb2799c1cff8b5abd6bf6f50ead7769ba5ae9c"), looks := false }, kinds := [], alts := [], laidByText := true, laidKinds := [.data], laidTests := true, laidLooks := .later }
def PoolEventsCardSaid : Prop := Claim7.holds Tryz.pinned (.plain (OpenSpec.ofChange poolEventsSpec)) poolEventsCard

/-- THE TIED CARD OF 'hopperlaw13.PoolBack'. -/
def poolBackCard : Claim7 := { stood := { row := poolBackRow, standIns := [], harness := (true, "d7a6610ef8b400b1696ea98ccecb2799c1cff8b5abd6bf6f50ead7769ba5ae9c"), looks := false }, kinds := [], alts := [], laidByText := true, laidKinds := [.data], laidTests := true, laidLooks := .later }
def PoolBackCardSaid : Prop := Claim7.holds Tryz.pinned (.plain (OpenSpec.ofChange poolBackSpec)) poolBackCard

/-- THE TIED CARD OF 'hopperlaw13.PoolEvicts'. -/
def poolEvictsCard : Claim7 := { stood := { row := poolEvictsRow, standIns := [], harness := (true, "d7a6610ef8b400b1696ea98ccecb2799c1cff8b5abd6bf6f50ead7769ba5ae9c"), looks := false }, kinds := [], alts := [], laidByText := true, laidKinds := [.data], laidTests := true, laidLooks := .later }
def PoolEvictsCardSaid : Prop := Claim7.holds Tryz.pinned (.plain (OpenSpec.ofChange poolEvictsSpec)) poolEvictsCard

/-- THE TIED CARD OF 'hopperlaw15.LookPool'. -/
def lookPoolCard : Claim7 := { stood := { row := lookPoolRow, standIns := [], harness := (true, "d7a6610ef8b400b1696ea98ccecb2799c1cff8b5abd6bf6f50ead7769ba5ae9c"), looks := false }, kinds := [], alts := [], laidByText := true, laidKinds := [.data], laidTests := true, laidLooks := .later }
def LookPoolCardSaid : Prop := Claim7.holds Tryz.pinned (.plain (OpenSpec.ofChange lookPoolSpec)) lookPoolCard

/-- THE TIED CARD OF 'hopperlaw16.TaskAlone'. -/
def taskAloneCard : Claim7 := { stood := { row := taskAloneRow, standIns := [], harness := (true, "d7a6610ef8b400b1696ea98ccecb2799c1cff8b5abd6bf6f50ead7769ba5ae9c"), looks := false }, kinds := [], alts := [], laidByText := true, laidKinds := [.data], laidTests := true, laidLooks := .later }
def TaskAloneCardSaid : Prop := Claim7.holds Tryz.pinned (.plain (OpenSpec.ofChange taskAloneSpec)) taskAloneCard

/-- THE TIED CARD OF 'hopperlaw16.TaskKeeps'. -/
def taskKeepsCard : Claim7 := { stood := { row := taskKeepsRow, standIns := [], harness := (true, "d7a6610ef8b400b1696ea98ccecb2799c1cff8b5abd6bf6f50ead7769ba5ae9c"), looks := false }, kinds := [], alts := [], laidByText := true, laidKinds := [.data], laidTests := true, laidLooks := .later }
def TaskKeepsCardSaid : Prop := Claim7.holds Tryz.pinned (.plain (OpenSpec.ofChange taskKeepsSpec)) taskKeepsCard

/-- THE TIED CARD OF 'hopperlaw16.TaskTwo'. -/
def taskTwoCard : Claim7 := { stood := { row := taskTwoRow, standIns := [], harness := (true, "d7a6610ef8b400b1696ea98ccecb2799c1cff8b5abd6bf6f50ead7769ba5ae9c"), looks := false }, kinds := [], alts := [], laidByText := true, laidKinds := [.data], laidTests := true, laidLooks := .later }
def TaskTwoCardSaid : Prop := Claim7.holds Tryz.pinned (.plain (OpenSpec.ofChange taskTwoSpec)) taskTwoCard

/-- THE TIED CARD OF 'hopperlaw16.TaskPoint'. -/
def taskPointCard : Claim7 := { stood := { row := taskPointRow, standIns := [], harness := (true, "d7a6610ef8b400b1696ea98ccecb2799c1cff8b5abd6bf6f50ead7769ba5ae9c"), looks := false }, kinds := [], alts := [], laidByText := true, laidKinds := [.data], laidTests := true, laidLooks := .later }
def TaskPointCardSaid : Prop := Claim7.holds Tryz.pinned (.plain (OpenSpec.ofChange taskPointSpec)) taskPointCard

/-- THE SECOND FORM's CARD OF 'hopperlaw13.PoolDoes'. -/
def poolDoesUptoCard : Claim7 := { stood := { row := poolDoesUptoRow, standIns := [], harness := (true, "d7a6610ef8b400b1696ea98ccecb2799c1cff8b5abd6bf6f50ead7769ba5ae9c"), looks := false }, kinds := [], alts := [], laidByText := true, laidKinds := [.data], laidTests := true, laidLooks := .later }
def PoolDoesUptoCardSaid : Prop := Claim7.holds Tryz.pinned (.plain (OpenSpec.upto poolDoesSpec)) poolDoesUptoCard

/-- THE SECOND FORM's CARD OF 'hopperlaw13.PoolRuns'. -/
def poolRunsUptoCard : Claim7 := { stood := { row := poolRunsUptoRow, standIns := [], harness := (true, "d7a6610ef8b400b1696ea98ccecb2799c1cff8b5abd6bf6f50ead7769ba5ae9c"), looks := false }, kinds := [], alts := [], laidByText := true, laidKinds := [.data], laidTests := true, laidLooks := .later }
def PoolRunsUptoCardSaid : Prop := Claim7.holds Tryz.pinned (.plain (OpenSpec.upto poolRunsSpec)) poolRunsUptoCard

/-- THE SECOND FORM's CARD OF 'hopperlaw13.PoolMay'. -/
def poolMayUptoCard : Claim7 := { stood := { row := poolMayUptoRow, standIns := [], harness := (true, "d7a6610ef8b400b1696ea98ccecb2799c1cff8b5abd6bf6f50ead7769ba5ae9c"), looks := false }, kinds := [], alts := [], laidByText := true, laidKinds := [.data], laidTests := true, laidLooks := .later }
def PoolMayUptoCardSaid : Prop := Claim7.holds Tryz.pinned (.plain (OpenSpec.upto poolMaySpec)) poolMayUptoCard

/-- THE SECOND FORM's CARD OF 'hopperlaw13.PoolEvents'. -/
def poolEventsUptoCard : Claim7 := { stood := { row := poolEventsUptoRow, standIns := [], harness := (true, "d7a6610ef8b400b1696ea98ccecb2799c1cff8b5abd6bf6f50ead7769ba5ae9c"), looks := false }, kinds := [], alts := [], laidByText := true, laidKinds := [.data], laidTests := true, laidLooks := .later }
def PoolEventsUptoCardSaid : Prop := Claim7.holds Tryz.pinned (.plain (OpenSpec.upto poolEventsSpec)) poolEventsUptoCard

/-- THE SECOND FORM's CARD OF 'hopperlaw13.PoolBack'. -/
def poolBackUptoCard : Claim7 := { stood := { row := poolBackUptoRow, standIns := [], harness := (true, "d7a6610ef8b400b1696ea98ccecb2799c1cff8b5abd6bf6f50ead7769ba5ae9c"), looks := false }, kinds := [], alts := [], laidByText := true, laidKinds := [.data], laidTests := true, laidLooks := .later }
def PoolBackUptoCardSaid : Prop := Claim7.holds Tryz.pinned (.plain (OpenSpec.upto poolBackSpec)) poolBackUptoCard

/-- THE SECOND FORM's CARD OF 'hopperlaw13.PoolEvicts'. -/
def poolEvictsUptoCard : Claim7 := { stood := { row := poolEvictsUptoRow, standIns := [], harness := (true, "d7a6610ef8b400b1696ea98ccecb2799c1cff8b5abd6bf6f50ead7769ba5ae9c"), looks := false }, kinds := [], alts := [], laidByText := true, laidKinds := [.data], laidTests := true, laidLooks := .later }
def PoolEvictsUptoCardSaid : Prop := Claim7.holds Tryz.pinned (.plain (OpenSpec.upto poolEvictsSpec)) poolEvictsUptoCard

/-- THE SECOND FORM's CARD OF 'hopperlaw15.LookPool'. -/
def lookPoolUptoCard : Claim7 := { stood := { row := lookPoolUptoRow, standIns := [], harness := (true, "d7a6610ef8b400b1696ea98ccecb2799c1cff8b5abd6bf6f50ead7769ba5ae9c"), looks := false }, kinds := [], alts := [], laidByText := true, laidKinds := [.data], laidTests := true, laidLooks := .later }
def LookPoolUptoCardSaid : Prop := Claim7.holds Tryz.pinned (.plain (OpenSpec.upto lookPoolSpec)) lookPoolUptoCard

/-- THE SECOND FORM's CARD OF 'hopperlaw16.TaskAlone'. -/
def taskAloneUptoCard : Claim7 := { stood := { row := taskAloneUptoRow, standIns := [], harness := (true, "d7a6610ef8b400b1696ea98ccecb2799c1cff8b5abd6bf6f50ead7769ba5ae9c"), looks := false }, kinds := [], alts := [], laidByText := true, laidKinds := [.data], laidTests := true, laidLooks := .later }
def TaskAloneUptoCardSaid : Prop := Claim7.holds Tryz.pinned (.plain (OpenSpec.upto taskAloneSpec)) taskAloneUptoCard

/-- THE SECOND FORM's CARD OF 'hopperlaw16.TaskKeeps'. -/
def taskKeepsUptoCard : Claim7 := { stood := { row := taskKeepsUptoRow, standIns := [], harness := (true, "d7a6610ef8b400b1696ea98ccecb2799c1cff8b5abd6bf6f50ead7769ba5ae9c"), looks := false }, kinds := [], alts := [], laidByText := true, laidKinds := [.data], laidTests := true, laidLooks := .later }
def TaskKeepsUptoCardSaid : Prop := Claim7.holds Tryz.pinned (.plain (OpenSpec.upto taskKeepsSpec)) taskKeepsUptoCard

/-- THE SECOND FORM's CARD OF 'hopperlaw16.TaskTwo'. -/
def taskTwoUptoCard : Claim7 := { stood := { row := taskTwoUptoRow, standIns := [], harness := (true, "d7a6610ef8b400b1696ea98ccecb2799c1cff8b5abd6bf6f50ead7769ba5ae9c"), looks := false }, kinds := [], alts := [], laidByText := true, laidKinds := [.data], laidTests := true, laidLooks := .later }
def TaskTwoUptoCardSaid : Prop := Claim7.holds Tryz.pinned (.plain (OpenSpec.upto taskTwoSpec)) taskTwoUptoCard

/-- THE SECOND FORM's CARD OF 'hopperlaw16.TaskPoint'. -/
def taskPointUptoCard : Claim7 := { stood := { row := taskPointUptoRow, standIns := [], harness := (true, "d7a6610ef8b400b1696ea98ccecb2799c1cff8b5abd6bf6f50ead7769ba5ae9c"), looks := false }, kinds := [], alts := [], laidByText := true, laidKinds := [.data], laidTests := true, laidLooks := .later }
def TaskPointUptoCardSaid : Prop := Claim7.holds Tryz.pinned (.plain (OpenSpec.upto taskPointSpec)) taskPointUptoCard
end Rows
end Go.Proofs.YtofpmnkkimgkfaaGreatDoor
