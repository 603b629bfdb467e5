/-
  DERIVED. GIVEN WITH THE SEED: THE CARDS: each row of YtfhgkkcpkcjbmaaGreatDoorRows.lean that lists a variable, with what it lists TIED to the program's text (the seventh form; the later family's looks); each row that meets fmt, with fmt's text TOLD by the authors' own Lean function (tested against real Go, not proved from fmt's source: count such statements apart). THE CARD IS WHAT COUNTS. Prove the row's statement (the work); the ties are given (YtfhgkkcpkcjbmaaGreatDoorTie.lean); close each card by the builder's one call (the guide's Derived/Test/ToyasCard.lean, 'card_holds'). Laid BY PROGRAM, IN A SANDBOX (cutbox-door.mjs). By AI agents, Wed Nov 11 2026. No macro, syntax, notation, axiom, sorry.
-/
import Derived.Test.YtfhgkkcpkcjbmaaGreatDoorRows
import GoSem.ClaimSeven
namespace Go.Proofs.YtfhgkkcpkcjbmaaGreatDoor
namespace Rows

/-- THE TIED CARD OF 'hopperlaw17.EvictAlone'. -/
def evictAloneCard : Claim7 := { stood := { row := evictAloneRow, standIns := [], harness := (true, "6461c1a10b9a0aaa78fa0a6fca3c279c968e3a8275ab4291289a02d45514576a"), looks := false }, kinds := [], alts := [], laidByText := true, laidKinds := [.data], laidTests := true, laidLooks := .later }
def EvictAloneCardSaid : Prop := Claim7.holds Tryz.pinned (.plain (OpenSpec.ofChange evictAloneSpec)) evictAloneCard

/-- THE TIED CARD OF 'hopperlaw17.EvictLocks'. -/
def evictLocksCard : Claim7 := { stood := { row := evictLocksRow, standIns := [], harness := (true, "6461c1a10b9a0aaa78fa0a6fca3c279c968e3a8275ab4291289a02d45514576a"), looks := false }, kinds := [], alts := [], laidByText := true, laidKinds := [.data], laidTests := true, laidLooks := .later }
def EvictLocksCardSaid : Prop := Claim7.holds Tryz.pinned (.plain (OpenSpec.ofChange evictLocksSpec)) evictLocksCard

/-- THE TIED CARD OF 'hopperlaw17.EvictParts'. -/
def evictPartsCard : Claim7 := { stood := { row := evictPartsRow, standIns := [], harness := (true, "6461c1a10b9a0aaa78fa0a6fca3c279c968e3a8275ab4291289a02d45514576a"), looks := false }, kinds := [], alts := [], laidByText := true, laidKinds := [.data], laidTests := true, laidLooks := .later }
def EvictPartsCardSaid : Prop := Claim7.holds Tryz.pinned (.plain (OpenSpec.ofChange evictPartsSpec)) evictPartsCard

/-- THE TIED CARD OF 'hopperlaw17.EvictIdle'. -/
def evictIdleCard : Claim7 := { stood := { row := evictIdleRow, standIns := [], harness := (true, "6461c1a10b9a0aaa78fa0a6fca3c279c968e3a8275ab4291289a02d45514576a"), looks := false }, kinds := [], alts := [], laidByText := true, laidKinds := [.data], laidTests := true, laidLooks := .later }
def EvictIdleCardSaid : Prop := Claim7.holds Tryz.pinned (.plain (OpenSpec.ofChange evictIdleSpec)) evictIdleCard

/-- THE TIED CARD OF 'hopperlaw18.SnapSteps'. -/
def snapStepsCard : Claim7 := { stood := { row := snapStepsRow, standIns := [], harness := (true, "6461c1a10b9a0aaa78fa0a6fca3c279c968e3a8275ab4291289a02d45514576a"), looks := false }, kinds := [], alts := [], laidByText := true, laidKinds := [.data], laidTests := true, laidLooks := .later }
def SnapStepsCardSaid : Prop := Claim7.holds Tryz.pinned (.plain (OpenSpec.ofChange snapStepsSpec)) snapStepsCard

/-- THE TIED CARD OF 'hopperlaw18.SnapAlone'. -/
def snapAloneCard : Claim7 := { stood := { row := snapAloneRow, standIns := [], harness := (true, "6461c1a10b9a0aaa78fa0a6fca3c279c968e3a8275ab4291289a02d45514576a"), looks := false }, kinds := [], alts := [], laidByText := true, laidKinds := [.data], laidTests := true, laidLooks := .later }
def SnapAloneCardSaid : Prop := Claim7.holds Tryz.pinned (.plain (OpenSpec.ofChange snapAloneSpec)) snapAloneCard

/-- THE TIED CARD OF 'hopperlaw18.SnapKeeps'. -/
def snapKeepsCard : Claim7 := { stood := { row := snapKeepsRow, standIns := [], harness := (true, "6461c1a10b9a0aaa78fa0a6fca3c279c968e3a8275ab4291289a02d45514576a"), looks := false }, kinds := [], alts := [], laidByText := true, laidKinds := [.data], laidTests := true, laidLooks := .later }
def SnapKeepsCardSaid : Prop := Claim7.holds Tryz.pinned (.plain (OpenSpec.ofChange snapKeepsSpec)) snapKeepsCard

/-- THE TIED CARD OF 'hopperlaw18.SnapParts'. -/
def snapPartsCard : Claim7 := { stood := { row := snapPartsRow, standIns := [], harness := (true, "6461c1a10b9a0aaa78fa0a6fca3c279c968e3a8275ab4291289a02d45514576a"), looks := false }, kinds := [], alts := [], laidByText := true, laidKinds := [.data], laidTests := true, laidLooks := .later }
def SnapPartsCardSaid : Prop := Claim7.holds Tryz.pinned (.plain (OpenSpec.ofChange snapPartsSpec)) snapPartsCard

/-- THE TIED CARD OF 'hopperlaw18.SnapFails'. -/
def snapFailsCard : Claim7 := { stood := { row := snapFailsRow, standIns := [], harness := (true, "6461c1a10b9a0aaa78fa0a6fca3c279c968e3a8275ab4291289a02d45514576a"), looks := false }, kinds := [], alts := [], laidByText := true, laidKinds := [.data], laidTests := true, laidLooks := .later }
def SnapFailsCardSaid : Prop := Claim7.holds Tryz.pinned (.plain (OpenSpec.ofChange snapFailsSpec)) snapFailsCard

/-- THE TIED CARD OF 'hopperlaw18.SnapMarks'. -/
def snapMarksCard : Claim7 := { stood := { row := snapMarksRow, standIns := [], harness := (true, "6461c1a10b9a0aaa78fa0a6fca3c279c968e3a8275ab4291289a02d45514576a"), looks := false }, kinds := [], alts := [], laidByText := true, laidKinds := [.data], laidTests := true, laidLooks := .later }
def SnapMarksCardSaid : Prop := Claim7.holds Tryz.pinned (.plain (OpenSpec.ofChange snapMarksSpec)) snapMarksCard

/-- THE SECOND FORM's CARD OF 'hopperlaw17.EvictAlone'. -/
def evictAloneUptoCard : Claim7 := { stood := { row := evictAloneUptoRow, standIns := [], harness := (true, "6461c1a10b9a0aaa78fa0a6fca3c279c968e3a8275ab4291289a02d45514576a"), looks := false }, kinds := [], alts := [], laidByText := true, laidKinds := [.data], laidTests := true, laidLooks := .later }
def EvictAloneUptoCardSaid : Prop := Claim7.holds Tryz.pinned (.plain (OpenSpec.upto evictAloneSpec)) evictAloneUptoCard

/-- THE SECOND FORM's CARD OF 'hopperlaw17.EvictLocks'. -/
def evictLocksUptoCard : Claim7 := { stood := { row := evictLocksUptoRow, standIns := [], harness := (true, "6461c1a10b9a0aaa78fa0a6fca3c279c968e3a8275ab4291289a02d45514576a"), looks := false }, kinds := [], alts := [], laidByText := true, laidKinds := [.data], laidTests := true, laidLooks := .later }
def EvictLocksUptoCardSaid : Prop := Claim7.holds Tryz.pinned (.plain (OpenSpec.upto evictLocksSpec)) evictLocksUptoCard

/-- THE SECOND FORM's CARD OF 'hopperlaw17.EvictParts'. -/
def evictPartsUptoCard : Claim7 := { stood := { row := evictPartsUptoRow, standIns := [], harness := (true, "6461c1a10b9a0aaa78fa0a6fca3c279c968e3a8275ab4291289a02d45514576a"), looks := false }, kinds := [], alts := [], laidByText := true, laidKinds := [.data], laidTests := true, laidLooks := .later }
def EvictPartsUptoCardSaid : Prop := Claim7.holds Tryz.pinned (.plain (OpenSpec.upto evictPartsSpec)) evictPartsUptoCard

/-- THE SECOND FORM's CARD OF 'hopperlaw17.EvictIdle'. -/
def evictIdleUptoCard : Claim7 := { stood := { row := evictIdleUptoRow, standIns := [], harness := (true, "6461c1a10b9a0aaa78fa0a6fca3c279c968e3a8275ab4291289a02d45514576a"), looks := false }, kinds := [], alts := [], laidByText := true, laidKinds := [.data], laidTests := true, laidLooks := .later }
def EvictIdleUptoCardSaid : Prop := Claim7.holds Tryz.pinned (.plain (OpenSpec.upto evictIdleSpec)) evictIdleUptoCard

/-- THE SECOND FORM's CARD OF 'hopperlaw18.SnapSteps'. -/
def snapStepsUptoCard : Claim7 := { stood := { row := snapStepsUptoRow, standIns := [], harness := (true, "6461c1a10b9a0aaa78fa0a6fca3c279c968e3a8275ab4291289a02d45514576a"), looks := false }, kinds := [], alts := [], laidByText := true, laidKinds := [.data], laidTests := true, laidLooks := .later }
def SnapStepsUptoCardSaid : Prop := Claim7.holds Tryz.pinned (.plain (OpenSpec.upto snapStepsSpec)) snapStepsUptoCard

/-- THE SECOND FORM's CARD OF 'hopperlaw18.SnapAlone'. -/
def snapAloneUptoCard : Claim7 := { stood := { row := snapAloneUptoRow, standIns := [], harness := (true, "6461c1a10b9a0aaa78fa0a6fca3c279c968e3a8275ab4291289a02d45514576a"), looks := false }, kinds := [], alts := [], laidByText := true, laidKinds := [.data], laidTests := true, laidLooks := .later }
def SnapAloneUptoCardSaid : Prop := Claim7.holds Tryz.pinned (.plain (OpenSpec.upto snapAloneSpec)) snapAloneUptoCard

/-- THE SECOND FORM's CARD OF 'hopperlaw18.SnapKeeps'. -/
def snapKeepsUptoCard : Claim7 := { stood := { row := snapKeepsUptoRow, standIns := [], harness := (true, "6461c1a10b9a0aaa78fa0a6fca3c279c968e3a8275ab4291289a02d45514576a"), looks := false }, kinds := [], alts := [], laidByText := true, laidKinds := [.data], laidTests := true, laidLooks := .later }
def SnapKeepsUptoCardSaid : Prop := Claim7.holds Tryz.pinned (.plain (OpenSpec.upto snapKeepsSpec)) snapKeepsUptoCard

/-- THE SECOND FORM's CARD OF 'hopperlaw18.SnapParts'. -/
def snapPartsUptoCard : Claim7 := { stood := { row := snapPartsUptoRow, standIns := [], harness := (true, "6461c1a10b9a0aaa78fa0a6fca3c279c968e3a8275ab4291289a02d45514576a"), looks := false }, kinds := [], alts := [], laidByText := true, laidKinds := [.data], laidTests := true, laidLooks := .later }
def SnapPartsUptoCardSaid : Prop := Claim7.holds Tryz.pinned (.plain (OpenSpec.upto snapPartsSpec)) snapPartsUptoCard

/-- THE SECOND FORM's CARD OF 'hopperlaw18.SnapFails'. -/
def snapFailsUptoCard : Claim7 := { stood := { row := snapFailsUptoRow, standIns := [], harness := (true, "6461c1a10b9a0aaa78fa0a6fca3c279c968e3a8275ab4291289a02d45514576a"), looks := false }, kinds := [], alts := [], laidByText := true, laidKinds := [.data], laidTests := true, laidLooks := .later }
def SnapFailsUptoCardSaid : Prop := Claim7.holds Tryz.pinned (.plain (OpenSpec.upto snapFailsSpec)) snapFailsUptoCard

/-- THE SECOND FORM's CARD OF 'hopperlaw18.SnapMarks'. -/
def snapMarksUptoCard : Claim7 := { stood := { row := snapMarksUptoRow, standIns := [], harness := (true, "6461c1a10b9a0aaa78fa0a6fca3c279c968e3a8275ab4291289a02d45514576a"), looks := false }, kinds := [], alts := [], laidByText := true, laidKinds := [.data], laidTests := true, laidLooks := .later }
def SnapMarksUptoCardSaid : Prop := Claim7.holds Tryz.pinned (.plain (OpenSpec.upto snapMarksSpec)) snapMarksUptoCard
end Rows
end Go.Proofs.YtfhgkkcpkcjbmaaGreatDoor
