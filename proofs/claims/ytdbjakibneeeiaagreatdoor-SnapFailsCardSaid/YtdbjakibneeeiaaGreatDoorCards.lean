/-
  DERIVED. GIVEN WITH THE SEED: THE CARDS: each row of YtdbjakibneeeiaaGreatDoorRows.lean that lists a variable, with what it lists TIED to the program's text (the seventh form; the later family's looks); each row that meets fmt, with fmt's text TOLD by the authors' own Lean function (tested against real Go, not proved from fmt's source: count such statements apart). THE CARD IS WHAT COUNTS. Prove the row's statement (the work); the ties are given (YtdbjakibneeeiaaGreatDoorTie.lean); close each card by the builder's one call (the guide's Derived/Test/ToyasCard.lean, 'card_holds'). Laid BY PROGRAM, IN A SANDBOX (cutbox-door.mjs). By AI agents, Wed Nov 11 2026. No macro, syntax, notation, axiom, sorry.
-/
import Derived.Test.YtdbjakibneeeiaaGreatDoorRows
import GoSem.ClaimSeven
namespace Go.Proofs.YtdbjakibneeeiaaGreatDoor
namespace Rows

/-- THE TIED CARD OF 'hopperlaw18.SnapSteps'. -/
def snapStepsCard : Claim7 := { stood := { row := snapStepsRow, standIns := [], harness := (true, "621008b7ed8bcbc85c9c464b1eac77a3ebf2ef907aac5a48f75506404f4bad47"), looks := false }, kinds := [], alts := [], laidByText := true, laidKinds := [.data], laidTests := true, laidLooks := .later }
def SnapStepsCardSaid : Prop := Claim7.holds Tryz.pinned (.plain (OpenSpec.ofChange snapStepsSpec)) snapStepsCard

/-- THE TIED CARD OF 'hopperlaw18.SnapAlone'. -/
def snapAloneCard : Claim7 := { stood := { row := snapAloneRow, standIns := [], harness := (true, "621008b7ed8bcbc85c9c464b1eac77a3ebf2ef907aac5a48f75506404f4bad47"), looks := false }, kinds := [], alts := [], laidByText := true, laidKinds := [.data], laidTests := true, laidLooks := .later }
def SnapAloneCardSaid : Prop := Claim7.holds Tryz.pinned (.plain (OpenSpec.ofChange snapAloneSpec)) snapAloneCard

/-- THE TIED CARD OF 'hopperlaw18.SnapKeeps'. -/
def snapKeepsCard : Claim7 := { stood := { row := snapKeepsRow, standIns := [], harness := (true, "621008b7ed8bcbc85c9c464b1eac77a3ebf2ef907aac5a48f75506404f4bad47"), looks := false }, kinds := [], alts := [], laidByText := true, laidKinds := [.data], laidTests := true, laidLooks := .later }
def SnapKeepsCardSaid : Prop := Claim7.holds Tryz.pinned (.plain (OpenSpec.ofChange snapKeepsSpec)) snapKeepsCard

/-- THE TIED CARD OF 'hopperlaw18.SnapParts'. -/
def snapPartsCard : Claim7 := { stood := { row := snapPartsRow, standIns := [], harness := (true, "621008b7ed8bcbc85c9c464b1eac77a3ebf2ef907aac5a48f75506404f4bad47"), looks := false }, kinds := [], alts := [], laidByText := true, laidKinds := [.data], laidTests := true, laidLooks := .later }
def SnapPartsCardSaid : Prop := Claim7.holds Tryz.pinned (.plain (OpenSpec.ofChange snapPartsSpec)) snapPartsCard

/-- THE TIED CARD OF 'hopperlaw18.SnapFails'. -/
def snapFailsCard : Claim7 := { stood := { row := snapFailsRow, standIns := [], harness := (true, "621008b7ed8bcbc85c9c464b1eac77a3ebf2ef907aac5a48f75506404f4bad47"), looks := false }, kinds := [], alts := [], laidByText := true, laidKinds := [.data], laidTests := true, laidLooks := .later }
def SnapFailsCardSaid : Prop := Claim7.holds Tryz.pinned (.plain (OpenSpec.ofChange snapFailsSpec)) snapFailsCard

/-- THE TIED CARD OF 'hopperlaw18.SnapMarks'. -/
def snapMarksCard : Claim7 := { stood := { row := snapMarksRow, standIns := [], harness := (true, "621008b7ed8bcbc85c9c464b1eac77a3ebf2ef907aac5a48f75506404f4bad47"), looks := false }, kinds := [], alts := [], laidByText := true, laidKinds := [.data], laidTests := true, laidLooks := .later }
def SnapMarksCardSaid : Prop := Claim7.holds Tryz.pinned (.plain (OpenSpec.ofChange snapMarksSpec)) snapMarksCard

/-- THE SECOND FORM's CARD OF 'hopperlaw18.SnapSteps'. -/
def snapStepsUptoCard : Claim7 := { stood := { row := snapStepsUptoRow, standIns := [], harness := (true, "621008b7ed8bcbc85c9c464b1eac77a3ebf2ef907aac5a48f75506404f4bad47"), looks := false }, kinds := [], alts := [], laidByText := true, laidKinds := [.data], laidTests := true, laidLooks := .later }
def SnapStepsUptoCardSaid : Prop := Claim7.holds Tryz.pinned (.plain (OpenSpec.upto snapStepsSpec)) snapStepsUptoCard

/-- THE SECOND FORM's CARD OF 'hopperlaw18.SnapAlone'. -/
def snapAloneUptoCard : Claim7 := { stood := { row := snapAloneUptoRow, standIns := [], harness := (true, "621008b7ed8bcbc85c9c464b1eac77a3ebf2ef907aac5a48f75506404f4bad47"), looks := false }, kinds := [], alts := [], laidByText := true, laidKinds := [.data], laidTests := true, laidLooks := .later }
def SnapAloneUptoCardSaid : Prop := Claim7.holds Tryz.pinned (.plain (OpenSpec.upto snapAloneSpec)) snapAloneUptoCard

/-- THE SECOND FORM's CARD OF 'hopperlaw18.SnapKeeps'. -/
def snapKeepsUptoCard : Claim7 := { stood := { row := snapKeepsUptoRow, standIns := [], harness := (true, "621008b7ed8bcbc85c9c464b1eac77a3ebf2ef907aac5a48f75506404f4bad47"), looks := false }, kinds := [], alts := [], laidByText := true, laidKinds := [.data], laidTests := true, laidLooks := .later }
def SnapKeepsUptoCardSaid : Prop := Claim7.holds Tryz.pinned (.plain (OpenSpec.upto snapKeepsSpec)) snapKeepsUptoCard

/-- THE SECOND FORM's CARD OF 'hopperlaw18.SnapParts'. -/
def snapPartsUptoCard : Claim7 := { stood := { row := snapPartsUptoRow, standIns := [], harness := (true, "621008b7ed8bcbc85c9c464b1eac77a3ebf2ef907aac5a48f75506404f4bad47"), looks := false }, kinds := [], alts := [], laidByText := true, laidKinds := [.data], laidTests := true, laidLooks := .later }
def SnapPartsUptoCardSaid : Prop := Claim7.holds Tryz.pinned (.plain (OpenSpec.upto snapPartsSpec)) snapPartsUptoCard

/-- THE SECOND FORM's CARD OF 'hopperlaw18.SnapFails'. -/
def snapFailsUptoCard : Claim7 := { stood := { row := snapFailsUptoRow, standIns := [], harness := (true, "621008b7ed8bcbc85c9c464b1eac77a3ebf2ef907aac5a48f75506404f4bad47"), looks := false }, kinds := [], alts := [], laidByText := true, laidKinds := [.data], laidTests := true, laidLooks := .later }
def SnapFailsUptoCardSaid : Prop := Claim7.holds Tryz.pinned (.plain (OpenSpec.upto snapFailsSpec)) snapFailsUptoCard

/-- THE SECOND FORM's CARD OF 'hopperlaw18.SnapMarks'. -/
def snapMarksUptoCard : Claim7 := { stood := { row := snapMarksUptoRow, standIns := [], harness := (true, "621008b7ed8bcbc85c9c464b1eac77a3ebf2ef907aac5a48f75506404f4bad47"), looks := false }, kinds := [], alts := [], laidByText := true, laidKinds := [.data], laidTests := true, laidLooks := .later }
def SnapMarksUptoCardSaid : Prop := Claim7.holds Tryz.pinned (.plain (OpenSpec.upto snapMarksSpec)) snapMarksUptoCard
end Rows
end Go.Proofs.YtdbjakibneeeiaaGreatDoor
