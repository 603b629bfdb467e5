/-
  DERIVED. GIVEN WITH THE SEED: THE CARDS: each row of YtohikebnlamnnaaDoorRows.lean that lists a variable, with what it lists TIED to the program's text (the seventh form; the later family's looks); each row that meets fmt, with fmt's text TOLD by the authors' own Lean function (tested against real Go, not proved from fmt's source: count such statements apart). THE CARD IS WHAT COUNTS. Prove the row's statement (the work); the ties are given (YtohikebnlamnnaaDoorTie.lean); close each card by the builder's one call (the guide's Derived/Test/ToyasCard.lean, 'card_holds'). Laid BY PROGRAM, IN A SANDBOX (cutbox-door.mjs). By AI agents, Wed Nov 11 2026. No macro, syntax, notation, axiom, sorry.
-/
import Derived.Test.YtohikebnlamnnaaDoorRows
import GoSem.ClaimSeven
namespace Go.Proofs.YtohikebnlamnnaaDoor
namespace Rows

/-- THE TIED CARD OF 'hopperlaw11.ShardJoins'. -/
def shardJoinsCard : Claim7 := { stood := { row := shardJoinsRow, standIns := [], harness := (true, "720f6701ae90a052211e6470d7d286ec70df9faa60d1833d35a594b593cda112"), looks := false }, kinds := [], alts := [], laidByText := true, laidKinds := [.data], laidTests := true, laidLooks := .later }
def ShardJoinsCardSaid : Prop := Claim7.holds Tryd.pinned (.plain (OpenSpec.ofChange shardJoinsSpec)) shardJoinsCard

/-- THE TIED CARD OF 'hopperlaw11.ShardWorst'. -/
def shardWorstCard : Claim7 := { stood := { row := shardWorstRow, standIns := [], harness := (true, "720f6701ae90a052211e6470d7d286ec70df9faa60d1833d35a594b593cda112"), looks := false }, kinds := [], alts := [], laidByText := true, laidKinds := [.data], laidTests := true, laidLooks := .later }
def ShardWorstCardSaid : Prop := Claim7.holds Tryd.pinned (.plain (OpenSpec.ofChange shardWorstSpec)) shardWorstCard

/-- THE TIED CARD OF 'hopperlaw11.ShardOrder'. -/
def shardOrderCard : Claim7 := { stood := { row := shardOrderRow, standIns := [], harness := (true, "720f6701ae90a052211e6470d7d286ec70df9faa60d1833d35a594b593cda112"), looks := false }, kinds := [], alts := [], laidByText := true, laidKinds := [.data], laidTests := true, laidLooks := .later }
def ShardOrderCardSaid : Prop := Claim7.holds Tryd.pinned (.plain (OpenSpec.ofChange shardOrderSpec)) shardOrderCard

/-- THE TIED CARD OF 'hopperlaw11.ShardSlots'. -/
def shardSlotsCard : Claim7 := { stood := { row := shardSlotsRow, standIns := [], harness := (true, "720f6701ae90a052211e6470d7d286ec70df9faa60d1833d35a594b593cda112"), looks := false }, kinds := [], alts := [], laidByText := true, laidKinds := [.data], laidTests := true, laidLooks := .later }
def ShardSlotsCardSaid : Prop := Claim7.holds Tryd.pinned (.plain (OpenSpec.ofChange shardSlotsSpec)) shardSlotsCard

/-- THE TIED CARD OF 'hopperlaw12.GreedyTells'. -/
def greedyTellsCard : Claim7 := { stood := { row := greedyTellsRow, standIns := [], harness := (true, "720f6701ae90a052211e6470d7d286ec70df9faa60d1833d35a594b593cda112"), looks := false }, kinds := [], alts := [], laidByText := true, laidKinds := [.data], laidTests := true, laidLooks := .later }
def GreedyTellsCardSaid : Prop := Claim7.holds Tryd.pinned (.plain (OpenSpec.ofChange greedyTellsSpec)) greedyTellsCard

/-- THE TIED CARD OF 'hopperlaw12.GreedyTakes'. -/
def greedyTakesCard : Claim7 := { stood := { row := greedyTakesRow, standIns := [], harness := (true, "720f6701ae90a052211e6470d7d286ec70df9faa60d1833d35a594b593cda112"), looks := false }, kinds := [], alts := [], laidByText := true, laidKinds := [.data], laidTests := true, laidLooks := .later }
def GreedyTakesCardSaid : Prop := Claim7.holds Tryd.pinned (.plain (OpenSpec.ofChange greedyTakesSpec)) greedyTakesCard

/-- THE TIED CARD OF 'hopperlaw12.GreedyMore'. -/
def greedyMoreCard : Claim7 := { stood := { row := greedyMoreRow, standIns := [], harness := (true, "720f6701ae90a052211e6470d7d286ec70df9faa60d1833d35a594b593cda112"), looks := false }, kinds := [], alts := [], laidByText := true, laidKinds := [.data], laidTests := true, laidLooks := .later }
def GreedyMoreCardSaid : Prop := Claim7.holds Tryd.pinned (.plain (OpenSpec.ofChange greedyMoreSpec)) greedyMoreCard

/-- THE TIED CARD OF 'hopperlaw12.GreedyGas'. -/
def greedyGasCard : Claim7 := { stood := { row := greedyGasRow, standIns := [], harness := (true, "720f6701ae90a052211e6470d7d286ec70df9faa60d1833d35a594b593cda112"), looks := false }, kinds := [], alts := [], laidByText := true, laidKinds := [.data], laidTests := true, laidLooks := .later }
def GreedyGasCardSaid : Prop := Claim7.holds Tryd.pinned (.plain (OpenSpec.ofChange greedyGasSpec)) greedyGasCard

/-- THE TIED CARD OF 'hopperlaw12.GreedyHeads'. -/
def greedyHeadsCard : Claim7 := { stood := { row := greedyHeadsRow, standIns := [], harness := (true, "720f6701ae90a052211e6470d7d286ec70df9faa60d1833d35a594b593cda112"), looks := false }, kinds := [], alts := [], laidByText := true, laidKinds := [.data], laidTests := true, laidLooks := .later }
def GreedyHeadsCardSaid : Prop := Claim7.holds Tryd.pinned (.plain (OpenSpec.ofChange greedyHeadsSpec)) greedyHeadsCard

/-- THE SECOND FORM's CARD OF 'hopperlaw11.ShardJoins'. -/
def shardJoinsUptoCard : Claim7 := { stood := { row := shardJoinsUptoRow, standIns := [], harness := (true, "720f6701ae90a052211e6470d7d286ec70df9faa60d1833d35a594b593cda112"), looks := false }, kinds := [], alts := [], laidByText := true, laidKinds := [.data], laidTests := true, laidLooks := .later }
def ShardJoinsUptoCardSaid : Prop := Claim7.holds Tryd.pinned (.plain (OpenSpec.upto shardJoinsSpec)) shardJoinsUptoCard

/-- THE SECOND FORM's CARD OF 'hopperlaw11.ShardWorst'. -/
def shardWorstUptoCard : Claim7 := { stood := { row := shardWorstUptoRow, standIns := [], harness := (true, "720f6701ae90a052211e6470d7d286ec70df9faa60d1833d35a594b593cda112"), looks := false }, kinds := [], alts := [], laidByText := true, laidKinds := [.data], laidTests := true, laidLooks := .later }
def ShardWorstUptoCardSaid : Prop := Claim7.holds Tryd.pinned (.plain (OpenSpec.upto shardWorstSpec)) shardWorstUptoCard

/-- THE SECOND FORM's CARD OF 'hopperlaw11.ShardOrder'. -/
def shardOrderUptoCard : Claim7 := { stood := { row := shardOrderUptoRow, standIns := [], harness := (true, "720f6701ae90a052211e6470d7d286ec70df9faa60d1833d35a594b593cda112"), looks := false }, kinds := [], alts := [], laidByText := true, laidKinds := [.data], laidTests := true, laidLooks := .later }
def ShardOrderUptoCardSaid : Prop := Claim7.holds Tryd.pinned (.plain (OpenSpec.upto shardOrderSpec)) shardOrderUptoCard

/-- THE SECOND FORM's CARD OF 'hopperlaw11.ShardSlots'. -/
def shardSlotsUptoCard : Claim7 := { stood := { row := shardSlotsUptoRow, standIns := [], harness := (true, "720f6701ae90a052211e6470d7d286ec70df9faa60d1833d35a594b593cda112"), looks := false }, kinds := [], alts := [], laidByText := true, laidKinds := [.data], laidTests := true, laidLooks := .later }
def ShardSlotsUptoCardSaid : Prop := Claim7.holds Tryd.pinned (.plain (OpenSpec.upto shardSlotsSpec)) shardSlotsUptoCard

/-- THE SECOND FORM's CARD OF 'hopperlaw12.GreedyTells'. -/
def greedyTellsUptoCard : Claim7 := { stood := { row := greedyTellsUptoRow, standIns := [], harness := (true, "720f6701ae90a052211e6470d7d286ec70df9faa60d1833d35a594b593cda112"), looks := false }, kinds := [], alts := [], laidByText := true, laidKinds := [.data], laidTests := true, laidLooks := .later }
def GreedyTellsUptoCardSaid : Prop := Claim7.holds Tryd.pinned (.plain (OpenSpec.upto greedyTellsSpec)) greedyTellsUptoCard

/-- THE SECOND FORM's CARD OF 'hopperlaw12.GreedyTakes'. -/
def greedyTakesUptoCard : Claim7 := { stood := { row := greedyTakesUptoRow, standIns := [], harness := (true, "720f6701ae90a052211e6470d7d286ec70df9faa60d1833d35a594b593cda112"), looks := false }, kinds := [], alts := [], laidByText := true, laidKinds := [.data], laidTests := true, laidLooks := .later }
def GreedyTakesUptoCardSaid : Prop := Claim7.holds Tryd.pinned (.plain (OpenSpec.upto greedyTakesSpec)) greedyTakesUptoCard

/-- THE SECOND FORM's CARD OF 'hopperlaw12.GreedyMore'. -/
def greedyMoreUptoCard : Claim7 := { stood := { row := greedyMoreUptoRow, standIns := [], harness := (true, "720f6701ae90a052211e6470d7d286ec70df9faa60d1833d35a594b593cda112"), looks := false }, kinds := [], alts := [], laidByText := true, laidKinds := [.data], laidTests := true, laidLooks := .later }
def GreedyMoreUptoCardSaid : Prop := Claim7.holds Tryd.pinned (.plain (OpenSpec.upto greedyMoreSpec)) greedyMoreUptoCard

/-- THE SECOND FORM's CARD OF 'hopperlaw12.GreedyGas'. -/
def greedyGasUptoCard : Claim7 := { stood := { row := greedyGasUptoRow, standIns := [], harness := (true, "720f6701ae90a052211e6470d7d286ec70df9faa60d1833d35a594b593cda112"), looks := false }, kinds := [], alts := [], laidByText := true, laidKinds := [.data], laidTests := true, laidLooks := .later }
def GreedyGasUptoCardSaid : Prop := Claim7.holds Tryd.pinned (.plain (OpenSpec.upto greedyGasSpec)) greedyGasUptoCard

/-- THE SECOND FORM's CARD OF 'hopperlaw12.GreedyHeads'. -/
def greedyHeadsUptoCard : Claim7 := { stood := { row := greedyHeadsUptoRow, standIns := [], harness := (true, "720f6701ae90a052211e6470d7d286ec70df9faa60d1833d35a594b593cda112"), looks := false }, kinds := [], alts := [], laidByText := true, laidKinds := [.data], laidTests := true, laidLooks := .later }
def GreedyHeadsUptoCardSaid : Prop := Claim7.holds Tryd.pinned (.plain (OpenSpec.upto greedyHeadsSpec)) greedyHeadsUptoCard
end Rows
end Go.Proofs.YtohikebnlamnnaaDoor
