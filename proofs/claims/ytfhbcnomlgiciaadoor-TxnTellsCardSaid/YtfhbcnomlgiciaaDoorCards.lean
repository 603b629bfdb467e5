/-
  DERIVED. GIVEN WITH THE SEED: THE CARDS: each row of YtfhbcnomlgiciaaDoorRows.lean that lists a variable, with what it lists TIED to the program's text (the seventh form; the later family's looks); each row that meets fmt, with fmt's text TOLD by the authors' own Lean function (tested against real Go, not proved from fmt's source: count such statements apart). THE CARD IS WHAT COUNTS. Prove the row's statement (the work); the ties are given (YtfhbcnomlgiciaaDoorTie.lean); close each card by the builder's one call (the guide's Derived/Test/ToyasCard.lean, 'card_holds'). Laid BY PROGRAM, IN A SANDBOX (cutbox-door.mjs). By AI agents, Wed Nov 11 2026. No macro, syntax, notation, axiom, sorry.
-/
import Derived.Test.YtfhbcnomlgiciaaDoorRows
import GoSem.ClaimSeven
namespace Go.Proofs.YtfhbcnomlgiciaaDoor
namespace Rows

/-- THE TIED CARD OF 'hopperlaw04.TxnTells'. -/
def txnTellsCard : Claim7 := { stood := { row := txnTellsRow, standIns := [], harness := (true, "948a49718508372c762258d2519a9bf423ba9787490b7bc45edf380d68f1aec7"), looks := false }, kinds := [], alts := [], laidByText := true, laidKinds := [.data], laidTests := true, laidLooks := .later }
def TxnTellsCardSaid : Prop := Claim7.holds Tryd.pinned (.plain (OpenSpec.ofChange txnTellsSpec)) txnTellsCard

/-- THE TIED CARD OF 'hopperlaw04.TxnBack'. -/
def txnBackCard : Claim7 := { stood := { row := txnBackRow, standIns := [], harness := (true, "948a49718508372c762258d2519a9bf423ba9787490b7bc45edf380d68f1aec7"), looks := false }, kinds := [], alts := [], laidByText := true, laidKinds := [.data], laidTests := true, laidLooks := .later }
def TxnBackCardSaid : Prop := Claim7.holds Tryd.pinned (.plain (OpenSpec.ofChange txnBackSpec)) txnBackCard

/-- THE TIED CARD OF 'hopperlaw04.TxnBetter'. -/
def txnBetterCard : Claim7 := { stood := { row := txnBetterRow, standIns := [], harness := (true, "948a49718508372c762258d2519a9bf423ba9787490b7bc45edf380d68f1aec7"), looks := false }, kinds := [], alts := [], laidByText := true, laidKinds := [.data], laidTests := true, laidLooks := .later }
def TxnBetterCardSaid : Prop := Claim7.holds Tryd.pinned (.plain (OpenSpec.ofChange txnBetterSpec)) txnBetterCard

/-- THE TIED CARD OF 'hopperlaw04.TxnLine'. -/
def txnLineCard : Claim7 := { stood := { row := txnLineRow, standIns := [], harness := (true, "948a49718508372c762258d2519a9bf423ba9787490b7bc45edf380d68f1aec7"), looks := false }, kinds := [], alts := [], laidByText := true, laidKinds := [.data], laidTests := true, laidLooks := .later }
def TxnLineCardSaid : Prop := Claim7.holds Tryd.pinned (.plain (OpenSpec.ofChange txnLineSpec)) txnLineCard

/-- THE TIED CARD OF 'hopperlaw04.TxnBytes'. -/
def txnBytesCard : Claim7 := { stood := { row := txnBytesRow, standIns := [], harness := (true, "948a49718508372c762258d2519a9bf423ba9787490b7bc45edf380d68f1aec7"), looks := false }, kinds := [], alts := [], laidByText := true, laidKinds := [.data], laidTests := true, laidLooks := .later }
def TxnBytesCardSaid : Prop := Claim7.holds Tryd.pinned (.plain (OpenSpec.ofChange txnBytesSpec)) txnBytesCard

/-- THE TIED CARD OF 'hopperlaw04.TxnTips'. -/
def txnTipsCard : Claim7 := { stood := { row := txnTipsRow, standIns := [], harness := (true, "948a49718508372c762258d2519a9bf423ba9787490b7bc45edf380d68f1aec7"), looks := false }, kinds := [], alts := [], laidByText := true, laidKinds := [.data], laidTests := true, laidLooks := .later }
def TxnTipsCardSaid : Prop := Claim7.holds Tryd.pinned (.plain (OpenSpec.ofChange txnTipsSpec)) txnTipsCard

/-- THE TIED CARD OF 'hopperlaw04.TxnSlots'. -/
def txnSlotsCard : Claim7 := { stood := { row := txnSlotsRow, standIns := [], harness := (true, "948a49718508372c762258d2519a9bf423ba9787490b7bc45edf380d68f1aec7"), looks := false }, kinds := [], alts := [], laidByText := true, laidKinds := [.data], laidTests := true, laidLooks := .later }
def TxnSlotsCardSaid : Prop := Claim7.holds Tryd.pinned (.plain (OpenSpec.ofChange txnSlotsSpec)) txnSlotsCard

/-- THE SECOND FORM's CARD OF 'hopperlaw04.TxnTells'. -/
def txnTellsUptoCard : Claim7 := { stood := { row := txnTellsUptoRow, standIns := [], harness := (true, "948a49718508372c762258d2519a9bf423ba9787490b7bc45edf380d68f1aec7"), looks := false }, kinds := [], alts := [], laidByText := true, laidKinds := [.data], laidTests := true, laidLooks := .later }
def TxnTellsUptoCardSaid : Prop := Claim7.holds Tryd.pinned (.plain (OpenSpec.upto txnTellsSpec)) txnTellsUptoCard

/-- THE SECOND FORM's CARD OF 'hopperlaw04.TxnBack'. -/
def txnBackUptoCard : Claim7 := { stood := { row := txnBackUptoRow, standIns := [], harness := (true, "948a49718508372c762258d2519a9bf423ba9787490b7bc45edf380d68f1aec7"), looks := false }, kinds := [], alts := [], laidByText := true, laidKinds := [.data], laidTests := true, laidLooks := .later }
def TxnBackUptoCardSaid : Prop := Claim7.holds Tryd.pinned (.plain (OpenSpec.upto txnBackSpec)) txnBackUptoCard

/-- THE SECOND FORM's CARD OF 'hopperlaw04.TxnBetter'. -/
def txnBetterUptoCard : Claim7 := { stood := { row := txnBetterUptoRow, standIns := [], harness := (true, "948a49718508372c762258d2519a9bf423ba9787490b7bc45edf380d68f1aec7"), looks := false }, kinds := [], alts := [], laidByText := true, laidKinds := [.data], laidTests := true, laidLooks := .later }
def TxnBetterUptoCardSaid : Prop := Claim7.holds Tryd.pinned (.plain (OpenSpec.upto txnBetterSpec)) txnBetterUptoCard

/-- THE SECOND FORM's CARD OF 'hopperlaw04.TxnLine'. -/
def txnLineUptoCard : Claim7 := { stood := { row := txnLineUptoRow, standIns := [], harness := (true, "948a49718508372c762258d2519a9bf423ba9787490b7bc45edf380d68f1aec7"), looks := false }, kinds := [], alts := [], laidByText := true, laidKinds := [.data], laidTests := true, laidLooks := .later }
def TxnLineUptoCardSaid : Prop := Claim7.holds Tryd.pinned (.plain (OpenSpec.upto txnLineSpec)) txnLineUptoCard

/-- THE SECOND FORM's CARD OF 'hopperlaw04.TxnBytes'. -/
def txnBytesUptoCard : Claim7 := { stood := { row := txnBytesUptoRow, standIns := [], harness := (true, "948a49718508372c762258d2519a9bf423ba9787490b7bc45edf380d68f1aec7"), looks := false }, kinds := [], alts := [], laidByText := true, laidKinds := [.data], laidTests := true, laidLooks := .later }
def TxnBytesUptoCardSaid : Prop := Claim7.holds Tryd.pinned (.plain (OpenSpec.upto txnBytesSpec)) txnBytesUptoCard

/-- THE SECOND FORM's CARD OF 'hopperlaw04.TxnTips'. -/
def txnTipsUptoCard : Claim7 := { stood := { row := txnTipsUptoRow, standIns := [], harness := (true, "948a49718508372c762258d2519a9bf423ba9787490b7bc45edf380d68f1aec7"), looks := false }, kinds := [], alts := [], laidByText := true, laidKinds := [.data], laidTests := true, laidLooks := .later }
def TxnTipsUptoCardSaid : Prop := Claim7.holds Tryd.pinned (.plain (OpenSpec.upto txnTipsSpec)) txnTipsUptoCard

/-- THE SECOND FORM's CARD OF 'hopperlaw04.TxnSlots'. -/
def txnSlotsUptoCard : Claim7 := { stood := { row := txnSlotsUptoRow, standIns := [], harness := (true, "948a49718508372c762258d2519a9bf423ba9787490b7bc45edf380d68f1aec7"), looks := false }, kinds := [], alts := [], laidByText := true, laidKinds := [.data], laidTests := true, laidLooks := .later }
def TxnSlotsUptoCardSaid : Prop := Claim7.holds Tryd.pinned (.plain (OpenSpec.upto txnSlotsSpec)) txnSlotsUptoCard
end Rows
end Go.Proofs.YtfhbcnomlgiciaaDoor
