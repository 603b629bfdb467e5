/-
  DERIVED. GIVEN WITH THE SEED: THE CARDS: each row of YtofpmnkkimgkfaaDoorRows.lean that lists a variable, with what it lists TIED to the program's text (the seventh form; the later family's looks); each row that meets fmt, with fmt's text TOLD by the authors' own Lean function (tested against real Go, not proved from fmt's source: count such statements apart). THE CARD IS WHAT COUNTS. Prove the row's statement (the work); the ties are given (YtofpmnkkimgkfaaDoorTie.lean); close each card by the builder's one call (the guide's Derived/Test/ToyasCard.lean, 'card_holds'). Laid BY PROGRAM, IN A SANDBOX (cutbox-door.mjs). By AI agents, Wed Nov 11 2026. No macro, syntax, notation, axiom, sorry.
-/
import Derived.Test.YtofpmnkkimgkfaaDoorRows
import GoSem.ClaimSeven
namespace Go.Proofs.YtofpmnkkimgkfaaDoor
namespace Rows

/-- THE TIED CARD OF 'hopperlaw15.LookTells'. -/
def lookTellsCard : Claim7 := { stood := { row := lookTellsRow, standIns := [], harness := (true, "c691626c4052b3d883dc81980693dcab11890168e18de7be2f2f2ad56109042f"), looks := false }, kinds := [], alts := [], laidByText := true, laidKinds := [.data], laidTests := true, laidLooks := .later }
def LookTellsCardSaid : Prop := Claim7.holds Tryd.pinned (.plain (OpenSpec.ofChange lookTellsSpec)) lookTellsCard

/-- THE TIED CARD OF 'hopperlaw15.LookMay'. -/
def lookMayCard : Claim7 := { stood := { row := lookMayRow, standIns := [], harness := (true, "c691626c4052b3d883dc81980693dcab11890168e18de7be2f2f2ad56109042f"), looks := false }, kinds := [], alts := [], laidByText := true, laidKinds := [.data], laidTests := true, laidLooks := .later }
def LookMayCardSaid : Prop := Claim7.holds Tryd.pinned (.plain (OpenSpec.ofChange lookMaySpec)) lookMayCard

/-- THE TIED CARD OF 'hopperlaw15.LookBack'. -/
def lookBackCard : Claim7 := { stood := { row := lookBackRow, standIns := [], harness := (true, "c691626c4052b3d883dc81980693dcab11890168e18de7be2f2f2ad56109042f"), looks := false }, kinds := [], alts := [], laidByText := true, laidKinds := [.data], laidTests := true, laidLooks := .later }
def LookBackCardSaid : Prop := Claim7.holds Tryd.pinned (.plain (OpenSpec.ofChange lookBackSpec)) lookBackCard

/-- THE TIED CARD OF 'hopperlaw15.LookWhose'. -/
def lookWhoseCard : Claim7 := { stood := { row := lookWhoseRow, standIns := [], harness := (true, "c691626c4052b3d883dc81980693dcab11890168e18de7be2f2f2ad56109042f"), looks := false }, kinds := [], alts := [], laidByText := true, laidKinds := [.data], laidTests := true, laidLooks := .later }
def LookWhoseCardSaid : Prop := Claim7.holds Tryd.pinned (.plain (OpenSpec.ofChange lookWhoseSpec)) lookWhoseCard

/-- THE SECOND FORM's CARD OF 'hopperlaw15.LookTells'. -/
def lookTellsUptoCard : Claim7 := { stood := { row := lookTellsUptoRow, standIns := [], harness := (true, "c691626c4052b3d883dc81980693dcab11890168e18de7be2f2f2ad56109042f"), looks := false }, kinds := [], alts := [], laidByText := true, laidKinds := [.data], laidTests := true, laidLooks := .later }
def LookTellsUptoCardSaid : Prop := Claim7.holds Tryd.pinned (.plain (OpenSpec.upto lookTellsSpec)) lookTellsUptoCard

/-- THE SECOND FORM's CARD OF 'hopperlaw15.LookMay'. -/
def lookMayUptoCard : Claim7 := { stood := { row := lookMayUptoRow, standIns := [], harness := (true, "c691626c4052b3d883dc81980693dcab11890168e18de7be2f2f2ad56109042f"), looks := false }, kinds := [], alts := [], laidByText := true, laidKinds := [.data], laidTests := true, laidLooks := .later }
def LookMayUptoCardSaid : Prop := Claim7.holds Tryd.pinned (.plain (OpenSpec.upto lookMaySpec)) lookMayUptoCard

/-- THE SECOND FORM's CARD OF 'hopperlaw15.LookBack'. -/
def lookBackUptoCard : Claim7 := { stood := { row := lookBackUptoRow, standIns := [], harness := (true, "c691626c4052b3d883dc81980693dcab11890168e18de7be2f2f2ad56109042f"), looks := false }, kinds := [], alts := [], laidByText := true, laidKinds := [.data], laidTests := true, laidLooks := .later }
def LookBackUptoCardSaid : Prop := Claim7.holds Tryd.pinned (.plain (OpenSpec.upto lookBackSpec)) lookBackUptoCard

/-- THE SECOND FORM's CARD OF 'hopperlaw15.LookWhose'. -/
def lookWhoseUptoCard : Claim7 := { stood := { row := lookWhoseUptoRow, standIns := [], harness := (true, "c691626c4052b3d883dc81980693dcab11890168e18de7be2f2f2ad56109042f"), looks := false }, kinds := [], alts := [], laidByText := true, laidKinds := [.data], laidTests := true, laidLooks := .later }
def LookWhoseUptoCardSaid : Prop := Claim7.holds Tryd.pinned (.plain (OpenSpec.upto lookWhoseSpec)) lookWhoseUptoCard
end Rows
end Go.Proofs.YtofpmnkkimgkfaaDoor
