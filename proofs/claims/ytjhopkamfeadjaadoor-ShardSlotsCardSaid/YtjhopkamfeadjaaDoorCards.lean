/-
  DERIVED. GIVEN WITH THE SEED: THE CARDS: each row of YtjhopkamfeadjaaDoorRows.lean that lists a variable, with what it lists TIED to the program's text (the seventh form; the later family's looks); each row that meets fmt, with fmt's text TOLD by the authors' own Lean function (tested against real Go, not proved from fmt's source: count such statements apart). THE CARD IS WHAT COUNTS. Prove the row's statement (the work); the ties are given (YtjhopkamfeadjaaDoorTie.lean); close each card by the builder's one call (the guide's Derived/Test/ToyasCard.lean, 'card_holds'). Laid BY PROGRAM, IN A SANDBOX (cutbox-door.mjs). By AI agents, Wed Nov 11 2026. No macro, syntax, notation, axiom, sorry.
-/
import Derived.Test.YtjhopkamfeadjaaDoorRows
import GoSem.ClaimSeven
namespace Go.Proofs.YtjhopkamfeadjaaDoor
namespace Rows

/-- THE TIED CARD OF 'hopperlaw11.ShardJoins'. -/
def shardJoinsCard : Claim7 := { stood := { row := shardJoinsRow, standIns := [], harness := (true, "232ae9b689898a3150144e226dbef7ee7ee4e521089a7afbbdb41a0f3fa648a2"), looks := false }, kinds := [], alts := [], laidByText := true, laidKinds := [.data], laidTests := true, laidLooks := .later }
def ShardJoinsCardSaid : Prop := Claim7.holds Tryd.pinned (.plain (OpenSpec.ofChange shardJoinsSpec)) shardJoinsCard

/-- THE TIED CARD OF 'hopperlaw11.ShardWorst'. -/
def shardWorstCard : Claim7 := { stood := { row := shardWorstRow, standIns := [], harness := (true, "232ae9b689898a3150144e226dbef7ee7ee4e521089a7afbbdb41a0f3fa648a2"), looks := false }, kinds := [], alts := [], laidByText := true, laidKinds := [.data], laidTests := true, laidLooks := .later }
def ShardWorstCardSaid : Prop := Claim7.holds Tryd.pinned (.plain (OpenSpec.ofChange shardWorstSpec)) shardWorstCard

/-- THE TIED CARD OF 'hopperlaw11.ShardOrder'. -/
def shardOrderCard : Claim7 := { stood := { row := shardOrderRow, standIns := [], harness := (true, "232ae9b689898a3150144e226dbef7ee7ee4e521089a7afbbdb41a0f3fa648a2"), looks := false }, kinds := [], alts := [], laidByText := true, laidKinds := [.data], laidTests := true, laidLooks := .later }
def ShardOrderCardSaid : Prop := Claim7.holds Tryd.pinned (.plain (OpenSpec.ofChange shardOrderSpec)) shardOrderCard

/-- THE TIED CARD OF 'hopperlaw11.ShardSlots'. -/
def shardSlotsCard : Claim7 := { stood := { row := shardSlotsRow, standIns := [], harness := (true, "232ae9b689898a3150144e226dbef7ee7ee4e521089a7afbbdb41a0f3fa648a2"), looks := false }, kinds := [], alts := [], laidByText := true, laidKinds := [.data], laidTests := true, laidLooks := .later }
def ShardSlotsCardSaid : Prop := Claim7.holds Tryd.pinned (.plain (OpenSpec.ofChange shardSlotsSpec)) shardSlotsCard

/-- THE SECOND FORM's CARD OF 'hopperlaw11.ShardJoins'. -/
def shardJoinsUptoCard : Claim7 := { stood := { row := shardJoinsUptoRow, standIns := [], harness := (true, "232ae9b689898a3150144e226dbef7ee7ee4e521089a7afbbdb41a0f3fa648a2"), looks := false }, kinds := [], alts := [], laidByText := true, laidKinds := [.data], laidTests := true, laidLooks := .later }
def ShardJoinsUptoCardSaid : Prop := Claim7.holds Tryd.pinned (.plain (OpenSpec.upto shardJoinsSpec)) shardJoinsUptoCard

/-- THE SECOND FORM's CARD OF 'hopperlaw11.ShardWorst'. -/
def shardWorstUptoCard : Claim7 := { stood := { row := shardWorstUptoRow, standIns := [], harness := (true, "232ae9b689898a3150144e226dbef7ee7ee4e521089a7afbbdb41a0f3fa648a2"), looks := false }, kinds := [], alts := [], laidByText := true, laidKinds := [.data], laidTests := true, laidLooks := .later }
def ShardWorstUptoCardSaid : Prop := Claim7.holds Tryd.pinned (.plain (OpenSpec.upto shardWorstSpec)) shardWorstUptoCard

/-- THE SECOND FORM's CARD OF 'hopperlaw11.ShardOrder'. -/
def shardOrderUptoCard : Claim7 := { stood := { row := shardOrderUptoRow, standIns := [], harness := (true, "232ae9b689898a3150144e226dbef7ee7ee4e521089a7afbbdb41a0f3fa648a2"), looks := false }, kinds := [], alts := [], laidByText := true, laidKinds := [.data], laidTests := true, laidLooks := .later }
def ShardOrderUptoCardSaid : Prop := Claim7.holds Tryd.pinned (.plain (OpenSpec.upto shardOrderSpec)) shardOrderUptoCard

/-- THE SECOND FORM's CARD OF 'hopperlaw11.ShardSlots'. -/
def shardSlotsUptoCard : Claim7 := { stood := { row := shardSlotsUptoRow, standIns := [], harness := (true, "232ae9b689898a3150144e226dbef7ee7ee4e521089a7afbbdb41a0f3fa648a2"), looks := false }, kinds := [], alts := [], laidByText := true, laidKinds := [.data], laidTests := true, laidLooks := .later }
def ShardSlotsUptoCardSaid : Prop := Claim7.holds Tryd.pinned (.plain (OpenSpec.upto shardSlotsSpec)) shardSlotsUptoCard
end Rows
end Go.Proofs.YtjhopkamfeadjaaDoor
