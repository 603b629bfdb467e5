/-
  DERIVED. GIVEN WITH THE SEED: THE CARDS: each row of YtmoopmcdolonjaaGreatDoorRows.lean that lists a variable, with what it lists TIED to the program's text (the seventh form; the later family's looks); each row that meets fmt, with fmt's text TOLD by the authors' own Lean function (tested against real Go, not proved from fmt's source: count such statements apart). THE CARD IS WHAT COUNTS. Prove the row's statement (the work); the ties are given (YtmoopmcdolonjaaGreatDoorTie.lean); close each card by the builder's one call (the guide's Derived/Test/ToyasCard.lean, 'card_holds'). Laid BY PROGRAM, IN A SANDBOX (cutbox-door.mjs). By AI agents, Wed Nov 11 2026. No macro, syntax, notation, axiom, sorry.
-/
import Derived.Test.YtmoopmcdolonjaaGreatDoorRows
import GoSem.ClaimSeven
namespace Go.Proofs.YtmoopmcdolonjaaGreatDoor
namespace Rows

/-- THE TIED CARD OF 'hopperlaw16.TaskAlone'. -/
def taskAloneCard : Claim7 := { stood := { row := taskAloneRow, standIns := [], harness := (true, "4354dd70a7a321e8ebf3b46142a4bb582955df75556ba67495d92e8a5f862be7"), looks := false }, kinds := [], alts := [], laidByText := true, laidKinds := [.data], laidTests := true, laidLooks := .later }
def TaskAloneCardSaid : Prop := Claim7.holds Tryz.pinned (.plain (OpenSpec.ofChange taskAloneSpec)) taskAloneCard

/-- THE TIED CARD OF 'hopperlaw16.TaskKeeps'. -/
def taskKeepsCard : Claim7 := { stood := { row := taskKeepsRow, standIns := [], harness := (true, "4354dd70a7a321e8ebf3b46142a4bb582955df75556ba67495d92e8a5f862be7"), looks := false }, kinds := [], alts := [], laidByText := true, laidKinds := [.data], laidTests := true, laidLooks := .later }
def TaskKeepsCardSaid : Prop := Claim7.holds Tryz.pinned (.plain (OpenSpec.ofChange taskKeepsSpec)) taskKeepsCard

/-- THE TIED CARD OF 'hopperlaw16.TaskTwo'. -/
def taskTwoCard : Claim7 := { stood := { row := taskTwoRow, standIns := [], harness := (true, "4354dd70a7a321e8ebf3b46142a4bb582955df75556ba67495d92e8a5f862be7"), looks := false }, kinds := [], alts := [], laidByText := true, laidKinds := [.data], laidTests := true, laidLooks := .later }
def TaskTwoCardSaid : Prop := Claim7.holds Tryz.pinned (.plain (OpenSpec.ofChange taskTwoSpec)) taskTwoCard

/-- THE TIED CARD OF 'hopperlaw16.TaskPoint'. -/
def taskPointCard : Claim7 := { stood := { row := taskPointRow, standIns := [], harness := (true, "4354dd70a7a321e8ebf3b46142a4bb582955df75556ba67495d92e8a5f862be7"), looks := false }, kinds := [], alts := [], laidByText := true, laidKinds := [.data], laidTests := true, laidLooks := .later }
def TaskPointCardSaid : Prop := Claim7.holds Tryz.pinned (.plain (OpenSpec.ofChange taskPointSpec)) taskPointCard

/-- THE SECOND FORM's CARD OF 'hopperlaw16.TaskAlone'. -/
def taskAloneUptoCard : Claim7 := { stood := { row := taskAloneUptoRow, standIns := [], harness := (true, "4354dd70a7a321e8ebf3b46142a4bb582955df75556ba67495d92e8a5f862be7"), looks := false }, kinds := [], alts := [], laidByText := true, laidKinds := [.data], laidTests := true, laidLooks := .later }
def TaskAloneUptoCardSaid : Prop := Claim7.holds Tryz.pinned (.plain (OpenSpec.upto taskAloneSpec)) taskAloneUptoCard

/-- THE SECOND FORM's CARD OF 'hopperlaw16.TaskKeeps'. -/
def taskKeepsUptoCard : Claim7 := { stood := { row := taskKeepsUptoRow, standIns := [], harness := (true, "4354dd70a7a321e8ebf3b46142a4bb582955df75556ba67495d92e8a5f862be7"), looks := false }, kinds := [], alts := [], laidByText := true, laidKinds := [.data], laidTests := true, laidLooks := .later }
def TaskKeepsUptoCardSaid : Prop := Claim7.holds Tryz.pinned (.plain (OpenSpec.upto taskKeepsSpec)) taskKeepsUptoCard

/-- THE SECOND FORM's CARD OF 'hopperlaw16.TaskTwo'. -/
def taskTwoUptoCard : Claim7 := { stood := { row := taskTwoUptoRow, standIns := [], harness := (true, "4354dd70a7a321e8ebf3b46142a4bb582955df75556ba67495d92e8a5f862be7"), looks := false }, kinds := [], alts := [], laidByText := true, laidKinds := [.data], laidTests := true, laidLooks := .later }
def TaskTwoUptoCardSaid : Prop := Claim7.holds Tryz.pinned (.plain (OpenSpec.upto taskTwoSpec)) taskTwoUptoCard

/-- THE SECOND FORM's CARD OF 'hopperlaw16.TaskPoint'. -/
def taskPointUptoCard : Claim7 := { stood := { row := taskPointUptoRow, standIns := [], harness := (true, "4354dd70a7a321e8ebf3b46142a4bb582955df75556ba67495d92e8a5f862be7"), looks := false }, kinds := [], alts := [], laidByText := true, laidKinds := [.data], laidTests := true, laidLooks := .later }
def TaskPointUptoCardSaid : Prop := Claim7.holds Tryz.pinned (.plain (OpenSpec.upto taskPointSpec)) taskPointUptoCard
end Rows
end Go.Proofs.YtmoopmcdolonjaaGreatDoor
