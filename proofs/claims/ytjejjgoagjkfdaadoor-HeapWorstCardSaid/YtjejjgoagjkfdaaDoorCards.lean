/-
  DERIVED. GIVEN WITH THE SEED: THE CARDS: each row of YtjejjgoagjkfdaaDoorRows.lean that lists a variable, with what it lists TIED to the program's text (the seventh form; the later family's looks); each row that meets fmt, with fmt's text TOLD by the authors' own Lean function (tested against real Go, not proved from fmt's source: count such statements apart). THE CARD IS WHAT COUNTS. Prove the row's statement (the work); the ties are given (YtjejjgoagjkfdaaDoorTie.lean); close each card by the builder's one call (the guide's Derived/Test/ToyasCard.lean, 'card_holds'). Laid BY PROGRAM, IN A SANDBOX (cutbox-door.mjs). By AI agents, Wed Nov 11 2026. No macro, syntax, notation, axiom, sorry.
-/
import Derived.Test.YtjejjgoagjkfdaaDoorRows
import GoSem.ClaimSeven
namespace Go.Proofs.YtjejjgoagjkfdaaDoor
namespace Rows

/-- THE TIED CARD OF 'hopperlaw05.QueueTells'. -/
def queueTellsCard : Claim7 := { stood := { row := queueTellsRow, standIns := [], harness := (true, "7b43f0632fcd048b6f8d684439df47e40f777b51c5ba6c01f50c9ec08b270201"), looks := false }, kinds := [], alts := [], laidByText := true, laidKinds := [.data], laidTests := true, laidLooks := .later }
def QueueTellsCardSaid : Prop := Claim7.holds Tryd.pinned (.plain (OpenSpec.ofChange queueTellsSpec)) queueTellsCard

/-- THE TIED CARD OF 'hopperlaw05.QueueChanges'. -/
def queueChangesCard : Claim7 := { stood := { row := queueChangesRow, standIns := [], harness := (true, "7b43f0632fcd048b6f8d684439df47e40f777b51c5ba6c01f50c9ec08b270201"), looks := false }, kinds := [], alts := [], laidByText := true, laidKinds := [.data], laidTests := true, laidLooks := .later }
def QueueChangesCardSaid : Prop := Claim7.holds Tryd.pinned (.plain (OpenSpec.ofChange queueChangesSpec)) queueChangesCard

/-- THE TIED CARD OF 'hopperlaw05.QueueMay'. -/
def queueMayCard : Claim7 := { stood := { row := queueMayRow, standIns := [], harness := (true, "7b43f0632fcd048b6f8d684439df47e40f777b51c5ba6c01f50c9ec08b270201"), looks := false }, kinds := [], alts := [], laidByText := true, laidKinds := [.data], laidTests := true, laidLooks := .later }
def QueueMayCardSaid : Prop := Claim7.holds Tryd.pinned (.plain (OpenSpec.ofChange queueMaySpec)) queueMayCard

/-- THE TIED CARD OF 'hopperlaw05.QueueReady'. -/
def queueReadyCard : Claim7 := { stood := { row := queueReadyRow, standIns := [], harness := (true, "7b43f0632fcd048b6f8d684439df47e40f777b51c5ba6c01f50c9ec08b270201"), looks := false }, kinds := [], alts := [], laidByText := true, laidKinds := [.data], laidTests := true, laidLooks := .later }
def QueueReadyCardSaid : Prop := Claim7.holds Tryd.pinned (.plain (OpenSpec.ofChange queueReadySpec)) queueReadyCard

/-- THE TIED CARD OF 'hopperlaw05.QueuePuts'. -/
def queuePutsCard : Claim7 := { stood := { row := queuePutsRow, standIns := [], harness := (true, "7b43f0632fcd048b6f8d684439df47e40f777b51c5ba6c01f50c9ec08b270201"), looks := false }, kinds := [], alts := [], laidByText := true, laidKinds := [.data], laidTests := true, laidLooks := .later }
def QueuePutsCardSaid : Prop := Claim7.holds Tryd.pinned (.plain (OpenSpec.ofChange queuePutsSpec)) queuePutsCard

/-- THE TIED CARD OF 'hopperlaw05.QueueBases'. -/
def queueBasesCard : Claim7 := { stood := { row := queueBasesRow, standIns := [], harness := (true, "7b43f0632fcd048b6f8d684439df47e40f777b51c5ba6c01f50c9ec08b270201"), looks := false }, kinds := [], alts := [], laidByText := true, laidKinds := [.data], laidTests := true, laidLooks := .later }
def QueueBasesCardSaid : Prop := Claim7.holds Tryd.pinned (.plain (OpenSpec.ofChange queueBasesSpec)) queueBasesCard

/-- THE TIED CARD OF 'hopperlaw05.QueuePlaces'. -/
def queuePlacesCard : Claim7 := { stood := { row := queuePlacesRow, standIns := [], harness := (true, "7b43f0632fcd048b6f8d684439df47e40f777b51c5ba6c01f50c9ec08b270201"), looks := false }, kinds := [], alts := [], laidByText := true, laidKinds := [.data], laidTests := true, laidLooks := .later }
def QueuePlacesCardSaid : Prop := Claim7.holds Tryd.pinned (.plain (OpenSpec.ofChange queuePlacesSpec)) queuePlacesCard

/-- THE TIED CARD OF 'hopperlaw06.HeapTells'. -/
def heapTellsCard : Claim7 := { stood := { row := heapTellsRow, standIns := [], harness := (true, "7b43f0632fcd048b6f8d684439df47e40f777b51c5ba6c01f50c9ec08b270201"), looks := false }, kinds := [], alts := [], laidByText := true, laidKinds := [.data], laidTests := true, laidLooks := .later }
def HeapTellsCardSaid : Prop := Claim7.holds Tryd.pinned (.plain (OpenSpec.ofChange heapTellsSpec)) heapTellsCard

/-- THE TIED CARD OF 'hopperlaw06.HeapStays'. -/
def heapStaysCard : Claim7 := { stood := { row := heapStaysRow, standIns := [], harness := (true, "7b43f0632fcd048b6f8d684439df47e40f777b51c5ba6c01f50c9ec08b270201"), looks := false }, kinds := [], alts := [], laidByText := true, laidKinds := [.data], laidTests := true, laidLooks := .later }
def HeapStaysCardSaid : Prop := Claim7.holds Tryd.pinned (.plain (OpenSpec.ofChange heapStaysSpec)) heapStaysCard

/-- THE TIED CARD OF 'hopperlaw06.HeapOrders'. -/
def heapOrdersCard : Claim7 := { stood := { row := heapOrdersRow, standIns := [], harness := (true, "7b43f0632fcd048b6f8d684439df47e40f777b51c5ba6c01f50c9ec08b270201"), looks := false }, kinds := [], alts := [], laidByText := true, laidKinds := [.data], laidTests := true, laidLooks := .later }
def HeapOrdersCardSaid : Prop := Claim7.holds Tryd.pinned (.plain (OpenSpec.ofChange heapOrdersSpec)) heapOrdersCard

/-- THE TIED CARD OF 'hopperlaw06.HeapWorst'. -/
def heapWorstCard : Claim7 := { stood := { row := heapWorstRow, standIns := [], harness := (true, "7b43f0632fcd048b6f8d684439df47e40f777b51c5ba6c01f50c9ec08b270201"), looks := false }, kinds := [], alts := [], laidByText := true, laidKinds := [.data], laidTests := true, laidLooks := .later }
def HeapWorstCardSaid : Prop := Claim7.holds Tryd.pinned (.plain (OpenSpec.ofChange heapWorstSpec)) heapWorstCard

/-- THE TIED CARD OF 'hopperlaw06.HeapPops'. -/
def heapPopsCard : Claim7 := { stood := { row := heapPopsRow, standIns := [], harness := (true, "7b43f0632fcd048b6f8d684439df47e40f777b51c5ba6c01f50c9ec08b270201"), looks := false }, kinds := [], alts := [], laidByText := true, laidKinds := [.data], laidTests := true, laidLooks := .later }
def HeapPopsCardSaid : Prop := Claim7.holds Tryd.pinned (.plain (OpenSpec.ofChange heapPopsSpec)) heapPopsCard

/-- THE TIED CARD OF 'hopperlaw06.HeapKeeps'. -/
def heapKeepsCard : Claim7 := { stood := { row := heapKeepsRow, standIns := [], harness := (true, "7b43f0632fcd048b6f8d684439df47e40f777b51c5ba6c01f50c9ec08b270201"), looks := false }, kinds := [], alts := [], laidByText := true, laidKinds := [.data], laidTests := true, laidLooks := .later }
def HeapKeepsCardSaid : Prop := Claim7.holds Tryd.pinned (.plain (OpenSpec.ofChange heapKeepsSpec)) heapKeepsCard

/-- THE SECOND FORM's CARD OF 'hopperlaw05.QueueTells'. -/
def queueTellsUptoCard : Claim7 := { stood := { row := queueTellsUptoRow, standIns := [], harness := (true, "7b43f0632fcd048b6f8d684439df47e40f777b51c5ba6c01f50c9ec08b270201"), looks := false }, kinds := [], alts := [], laidByText := true, laidKinds := [.data], laidTests := true, laidLooks := .later }
def QueueTellsUptoCardSaid : Prop := Claim7.holds Tryd.pinned (.plain (OpenSpec.upto queueTellsSpec)) queueTellsUptoCard

/-- THE SECOND FORM's CARD OF 'hopperlaw05.QueueChanges'. -/
def queueChangesUptoCard : Claim7 := { stood := { row := queueChangesUptoRow, standIns := [], harness := (true, "7b43f0632fcd048b6f8d684439df47e40f777b51c5ba6c01f50c9ec08b270201"), looks := false }, kinds := [], alts := [], laidByText := true, laidKinds := [.data], laidTests := true, laidLooks := .later }
def QueueChangesUptoCardSaid : Prop := Claim7.holds Tryd.pinned (.plain (OpenSpec.upto queueChangesSpec)) queueChangesUptoCard

/-- THE SECOND FORM's CARD OF 'hopperlaw05.QueueMay'. -/
def queueMayUptoCard : Claim7 := { stood := { row := queueMayUptoRow, standIns := [], harness := (true, "7b43f0632fcd048b6f8d684439df47e40f777b51c5ba6c01f50c9ec08b270201"), looks := false }, kinds := [], alts := [], laidByText := true, laidKinds := [.data], laidTests := true, laidLooks := .later }
def QueueMayUptoCardSaid : Prop := Claim7.holds Tryd.pinned (.plain (OpenSpec.upto queueMaySpec)) queueMayUptoCard

/-- THE SECOND FORM's CARD OF 'hopperlaw05.QueueReady'. -/
def queueReadyUptoCard : Claim7 := { stood := { row := queueReadyUptoRow, standIns := [], harness := (true, "7b43f0632fcd048b6f8d684439df47e40f777b51c5ba6c01f50c9ec08b270201"), looks := false }, kinds := [], alts := [], laidByText := true, laidKinds := [.data], laidTests := true, laidLooks := .later }
def QueueReadyUptoCardSaid : Prop := Claim7.holds Tryd.pinned (.plain (OpenSpec.upto queueReadySpec)) queueReadyUptoCard

/-- THE SECOND FORM's CARD OF 'hopperlaw05.QueuePuts'. -/
def queuePutsUptoCard : Claim7 := { stood := { row := queuePutsUptoRow, standIns := [], harness := (true, "7b43f0632fcd048b6f8d684439df47e40f777b51c5ba6c01f50c9ec08b270201"), looks := false }, kinds := [], alts := [], laidByText := true, laidKinds := [.data], laidTests := true, laidLooks := .later }
def QueuePutsUptoCardSaid : Prop := Claim7.holds Tryd.pinned (.plain (OpenSpec.upto queuePutsSpec)) queuePutsUptoCard

/-- THE SECOND FORM's CARD OF 'hopperlaw05.QueueBases'. -/
def queueBasesUptoCard : Claim7 := { stood := { row := queueBasesUptoRow, standIns := [], harness := (true, "7b43f0632fcd048b6f8d684439df47e40f777b51c5ba6c01f50c9ec08b270201"), looks := false }, kinds := [], alts := [], laidByText := true, laidKinds := [.data], laidTests := true, laidLooks := .later }
def QueueBasesUptoCardSaid : Prop := Claim7.holds Tryd.pinned (.plain (OpenSpec.upto queueBasesSpec)) queueBasesUptoCard

/-- THE SECOND FORM's CARD OF 'hopperlaw05.QueuePlaces'. -/
def queuePlacesUptoCard : Claim7 := { stood := { row := queuePlacesUptoRow, standIns := [], harness := (true, "7b43f0632fcd048b6f8d684439df47e40f777b51c5ba6c01f50c9ec08b270201"), looks := false }, kinds := [], alts := [], laidByText := true, laidKinds := [.data], laidTests := true, laidLooks := .later }
def QueuePlacesUptoCardSaid : Prop := Claim7.holds Tryd.pinned (.plain (OpenSpec.upto queuePlacesSpec)) queuePlacesUptoCard

/-- THE SECOND FORM's CARD OF 'hopperlaw06.HeapTells'. -/
def heapTellsUptoCard : Claim7 := { stood := { row := heapTellsUptoRow, standIns := [], harness := (true, "7b43f0632fcd048b6f8d684439df47e40f777b51c5ba6c01f50c9ec08b270201"), looks := false }, kinds := [], alts := [], laidByText := true, laidKinds := [.data], laidTests := true, laidLooks := .later }
def HeapTellsUptoCardSaid : Prop := Claim7.holds Tryd.pinned (.plain (OpenSpec.upto heapTellsSpec)) heapTellsUptoCard

/-- THE SECOND FORM's CARD OF 'hopperlaw06.HeapStays'. -/
def heapStaysUptoCard : Claim7 := { stood := { row := heapStaysUptoRow, standIns := [], harness := (true, "7b43f0632fcd048b6f8d684439df47e40f777b51c5ba6c01f50c9ec08b270201"), looks := false }, kinds := [], alts := [], laidByText := true, laidKinds := [.data], laidTests := true, laidLooks := .later }
def HeapStaysUptoCardSaid : Prop := Claim7.holds Tryd.pinned (.plain (OpenSpec.upto heapStaysSpec)) heapStaysUptoCard

/-- THE SECOND FORM's CARD OF 'hopperlaw06.HeapOrders'. -/
def heapOrdersUptoCard : Claim7 := { stood := { row := heapOrdersUptoRow, standIns := [], harness := (true, "7b43f0632fcd048b6f8d684439df47e40f777b51c5ba6c01f50c9ec08b270201"), looks := false }, kinds := [], alts := [], laidByText := true, laidKinds := [.data], laidTests := true, laidLooks := .later }
def HeapOrdersUptoCardSaid : Prop := Claim7.holds Tryd.pinned (.plain (OpenSpec.upto heapOrdersSpec)) heapOrdersUptoCard

/-- THE SECOND FORM's CARD OF 'hopperlaw06.HeapWorst'. -/
def heapWorstUptoCard : Claim7 := { stood := { row := heapWorstUptoRow, standIns := [], harness := (true, "7b43f0632fcd048b6f8d684439df47e40f777b51c5ba6c01f50c9ec08b270201"), looks := false }, kinds := [], alts := [], laidByText := true, laidKinds := [.data], laidTests := true, laidLooks := .later }
def HeapWorstUptoCardSaid : Prop := Claim7.holds Tryd.pinned (.plain (OpenSpec.upto heapWorstSpec)) heapWorstUptoCard

/-- THE SECOND FORM's CARD OF 'hopperlaw06.HeapPops'. -/
def heapPopsUptoCard : Claim7 := { stood := { row := heapPopsUptoRow, standIns := [], harness := (true, "7b43f0632fcd048b6f8d684439df47e40f777b51c5ba6c01f50c9ec08b270201"), looks := false }, kinds := [], alts := [], laidByText := true, laidKinds := [.data], laidTests := true, laidLooks := .later }
def HeapPopsUptoCardSaid : Prop := Claim7.holds Tryd.pinned (.plain (OpenSpec.upto heapPopsSpec)) heapPopsUptoCard

/-- THE SECOND FORM's CARD OF 'hopperlaw06.HeapKeeps'. -/
def heapKeepsUptoCard : Claim7 := { stood := { row := heapKeepsUptoRow, standIns := [], harness := (true, "7b43f0632fcd048b6f8d684439df47e40f777b51c5ba6c01f50c9ec08b270201"), looks := false }, kinds := [], alts := [], laidByText := true, laidKinds := [.data], laidTests := true, laidLooks := .later }
def HeapKeepsUptoCardSaid : Prop := Claim7.holds Tryd.pinned (.plain (OpenSpec.upto heapKeepsSpec)) heapKeepsUptoCard
end Rows
end Go.Proofs.YtjejjgoagjkfdaaDoor
