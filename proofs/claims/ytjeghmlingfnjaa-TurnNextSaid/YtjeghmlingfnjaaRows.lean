/-
  No cell of these rows narrows 'for every input' (looked for: loops, veiled, ifaces, maps, wideKeys, modest, calm, conditions, laid).
  DERIVED. THE GIVEN ROWS OF THIS SEAT. 13 by the template 'for every input the law returns true; each argument reads behind the call as it read before'; 0 by the template 'total and deterministic' (their statements: YtjeghmlingfnjaaTotals.lean).
  GIVEN WITH THE SEED: the statements are not yours to turn. If you find one false, say at which input.
  Laid BY PROGRAM, IN A SANDBOX (cutbox-rows.mjs): the forced cells as the released guide's own fill.sh prints them over the translation 1cf2d6b4662c3211… (all of the seat's roots in one cut). By AI agents, Wed Nov 11 2026. No macro, syntax, notation, axiom, sorry.
-/
import Derived.Test.YtjeghmlingfnjaaChecked
import GoSem.Claim
import GoSem.ClaimJoined
import GoSem.ClaimMapViews
import Derived.JoinedTies
import Derived.KernelRfl
namespace Go.Proofs.Ytjeghmlingfnjaa
/- THE CELL 'sum', in the pinned program and in every row, IS THE sha256 OF THE DUMP (.gsa) THAT YtjeghmlingfnjaaProg.lean LOADS. Nothing in Lean hashes anything: it is a label: what it is worth is what the hold of that sum in a sandbox is worth. -/
noncomputable def Try.pinned : Pinned := { name := "ytjeghmlingfnjaa", sum := "1cf2d6b4662c3211642a171c8cdc85029098ca5ace43477e181a8eb0ec281669", checked := Try.checked }
namespace Rows
def none {H : Type} : Left H := { results := [], args := [] }

/-- 'hopperlaw08.PipeTells': WHATEVER THE INPUT: true; the input reads as it did. -/
def pipeTellsSpec : ChangeSpec := { name := "pipeTells", fn := fun _ => fun
  | [d1, d2, d3] => { results := [.lit (.bool true)], args := [d1, d2, d3] }
  | _ => none }
def pipeTellsRow : OpenClaim := { program := "ytjeghmlingfnjaa", sum := "1cf2d6b4662c3211642a171c8cdc85029098ca5ace43477e181a8eb0ec281669", func := "hopper/hopperlaw08.PipeTells", spec := "pipeTells", apart := false }
def PipeTellsSaid : Prop := pipeTellsRow.holds Try.pinned (OpenSpec.ofChange pipeTellsSpec)

/-- ITS FALSE NEIGHBOUR: 'it returns false'. Refute it at one input. -/
def pipeTellsWrong : ChangeSpec := { name := "pipeTells", fn := fun _ => fun
  | [d1, d2, d3] => { results := [.lit (.bool false)], args := [d1, d2, d3] }
  | _ => none }
def PipeTellsWrongFalsely : Prop := pipeTellsRow.holds Try.pinned (OpenSpec.ofChange pipeTellsWrong)

/-- 'hopperlaw08.PipeRows': WHATEVER THE INPUT: true; the input reads as it did. -/
def pipeRowsSpec : ChangeSpec := { name := "pipeRows", fn := fun _ => fun
  | [d1, d2] => { results := [.lit (.bool true)], args := [d1, d2] }
  | _ => none }
def pipeRowsRow : OpenClaim := { program := "ytjeghmlingfnjaa", sum := "1cf2d6b4662c3211642a171c8cdc85029098ca5ace43477e181a8eb0ec281669", func := "hopper/hopperlaw08.PipeRows", spec := "pipeRows", apart := false }
def PipeRowsSaid : Prop := pipeRowsRow.holds Try.pinned (OpenSpec.ofChange pipeRowsSpec)

/-- ITS FALSE NEIGHBOUR: 'it returns false'. Refute it at one input. -/
def pipeRowsWrong : ChangeSpec := { name := "pipeRows", fn := fun _ => fun
  | [d1, d2] => { results := [.lit (.bool false)], args := [d1, d2] }
  | _ => none }
def PipeRowsWrongFalsely : Prop := pipeRowsRow.holds Try.pinned (OpenSpec.ofChange pipeRowsWrong)

/-- 'hopperlaw08.PipeCounts': WHATEVER THE INPUT: true; the input reads as it did. -/
def pipeCountsSpec : ChangeSpec := { name := "pipeCounts", fn := fun _ => fun
  | [d1, d2] => { results := [.lit (.bool true)], args := [d1, d2] }
  | _ => none }
def pipeCountsRow : OpenClaim := { program := "ytjeghmlingfnjaa", sum := "1cf2d6b4662c3211642a171c8cdc85029098ca5ace43477e181a8eb0ec281669", func := "hopper/hopperlaw08.PipeCounts", spec := "pipeCounts", apart := false }
def PipeCountsSaid : Prop := pipeCountsRow.holds Try.pinned (OpenSpec.ofChange pipeCountsSpec)

/-- ITS FALSE NEIGHBOUR: 'it returns false'. Refute it at one input. -/
def pipeCountsWrong : ChangeSpec := { name := "pipeCounts", fn := fun _ => fun
  | [d1, d2] => { results := [.lit (.bool false)], args := [d1, d2] }
  | _ => none }
def PipeCountsWrongFalsely : Prop := pipeCountsRow.holds Try.pinned (OpenSpec.ofChange pipeCountsWrong)

/-- 'hopperlaw08.PipeThrough': WHATEVER THE INPUT: true; the input reads as it did. -/
def pipeThroughSpec : ChangeSpec := { name := "pipeThrough", fn := fun _ => fun
  | [d1, d2] => { results := [.lit (.bool true)], args := [d1, d2] }
  | _ => none }
def pipeThroughRow : OpenClaim := { program := "ytjeghmlingfnjaa", sum := "1cf2d6b4662c3211642a171c8cdc85029098ca5ace43477e181a8eb0ec281669", func := "hopper/hopperlaw08.PipeThrough", spec := "pipeThrough", apart := false }
def PipeThroughSaid : Prop := pipeThroughRow.holds Try.pinned (OpenSpec.ofChange pipeThroughSpec)

/-- ITS FALSE NEIGHBOUR: 'it returns false'. Refute it at one input. -/
def pipeThroughWrong : ChangeSpec := { name := "pipeThrough", fn := fun _ => fun
  | [d1, d2] => { results := [.lit (.bool false)], args := [d1, d2] }
  | _ => none }
def PipeThroughWrongFalsely : Prop := pipeThroughRow.holds Try.pinned (OpenSpec.ofChange pipeThroughWrong)

/-- 'hopperlaw09.LockTells': WHATEVER THE INPUT: true; the input reads as it did. -/
def lockTellsSpec : ChangeSpec := { name := "lockTells", fn := fun _ => fun
  | [d1, d2, d3] => { results := [.lit (.bool true)], args := [d1, d2, d3] }
  | _ => none }
def lockTellsRow : OpenClaim := { program := "ytjeghmlingfnjaa", sum := "1cf2d6b4662c3211642a171c8cdc85029098ca5ace43477e181a8eb0ec281669", func := "hopper/hopperlaw09.LockTells", spec := "lockTells", unfollowed := true, recurses := true, apart := false }
def LockTellsSaid : Prop := lockTellsRow.holds Try.pinned (OpenSpec.ofChange lockTellsSpec)

/-- ITS FALSE NEIGHBOUR: 'it returns false'. Refute it at one input. -/
def lockTellsWrong : ChangeSpec := { name := "lockTells", fn := fun _ => fun
  | [d1, d2, d3] => { results := [.lit (.bool false)], args := [d1, d2, d3] }
  | _ => none }
def LockTellsWrongFalsely : Prop := lockTellsRow.holds Try.pinned (OpenSpec.ofChange lockTellsWrong)

/-- 'hopperlaw09.LockRuns': WHATEVER THE INPUT: true; the input reads as it did. -/
def lockRunsSpec : ChangeSpec := { name := "lockRuns", fn := fun _ => fun
  | [d1, d2] => { results := [.lit (.bool true)], args := [d1, d2] }
  | _ => none }
def lockRunsRow : OpenClaim := { program := "ytjeghmlingfnjaa", sum := "1cf2d6b4662c3211642a171c8cdc85029098ca5ace43477e181a8eb0ec281669", func := "hopper/hopperlaw09.LockRuns", spec := "lockRuns", unfollowed := true, recurses := true, apart := false }
def LockRunsSaid : Prop := lockRunsRow.holds Try.pinned (OpenSpec.ofChange lockRunsSpec)

/-- ITS FALSE NEIGHBOUR: 'it returns false'. Refute it at one input. -/
def lockRunsWrong : ChangeSpec := { name := "lockRuns", fn := fun _ => fun
  | [d1, d2] => { results := [.lit (.bool false)], args := [d1, d2] }
  | _ => none }
def LockRunsWrongFalsely : Prop := lockRunsRow.holds Try.pinned (OpenSpec.ofChange lockRunsWrong)

/-- 'hopperlaw09.LockOwn': WHATEVER THE INPUT: true; the input reads as it did. -/
def lockOwnSpec : ChangeSpec := { name := "lockOwn", fn := fun _ => fun
  | [d1, d2, d3] => { results := [.lit (.bool true)], args := [d1, d2, d3] }
  | _ => none }
def lockOwnRow : OpenClaim := { program := "ytjeghmlingfnjaa", sum := "1cf2d6b4662c3211642a171c8cdc85029098ca5ace43477e181a8eb0ec281669", func := "hopper/hopperlaw09.LockOwn", spec := "lockOwn", unfollowed := true, recurses := true, apart := false }
def LockOwnSaid : Prop := lockOwnRow.holds Try.pinned (OpenSpec.ofChange lockOwnSpec)

/-- ITS FALSE NEIGHBOUR: 'it returns false'. Refute it at one input. -/
def lockOwnWrong : ChangeSpec := { name := "lockOwn", fn := fun _ => fun
  | [d1, d2, d3] => { results := [.lit (.bool false)], args := [d1, d2, d3] }
  | _ => none }
def LockOwnWrongFalsely : Prop := lockOwnRow.holds Try.pinned (OpenSpec.ofChange lockOwnWrong)

/-- 'hopperlaw09.LockFirst': WHATEVER THE INPUT: true; the input reads as it did. -/
def lockFirstSpec : ChangeSpec := { name := "lockFirst", fn := fun _ => fun
  | [d1, d2] => { results := [.lit (.bool true)], args := [d1, d2] }
  | _ => none }
def lockFirstRow : OpenClaim := { program := "ytjeghmlingfnjaa", sum := "1cf2d6b4662c3211642a171c8cdc85029098ca5ace43477e181a8eb0ec281669", func := "hopper/hopperlaw09.LockFirst", spec := "lockFirst", unfollowed := true, recurses := true, apart := false }
def LockFirstSaid : Prop := lockFirstRow.holds Try.pinned (OpenSpec.ofChange lockFirstSpec)

/-- ITS FALSE NEIGHBOUR: 'it returns false'. Refute it at one input. -/
def lockFirstWrong : ChangeSpec := { name := "lockFirst", fn := fun _ => fun
  | [d1, d2] => { results := [.lit (.bool false)], args := [d1, d2] }
  | _ => none }
def LockFirstWrongFalsely : Prop := lockFirstRow.holds Try.pinned (OpenSpec.ofChange lockFirstWrong)

/-- 'hopperlaw10.TurnTells': WHATEVER THE INPUT: true; the input reads as it did. -/
def turnTellsSpec : ChangeSpec := { name := "turnTells", fn := fun _ => fun
  | [d1, d2, d3] => { results := [.lit (.bool true)], args := [d1, d2, d3] }
  | _ => none }
def turnTellsRow : OpenClaim := { program := "ytjeghmlingfnjaa", sum := "1cf2d6b4662c3211642a171c8cdc85029098ca5ace43477e181a8eb0ec281669", func := "hopper/hopperlaw10.TurnTells", spec := "turnTells", unfollowed := true, recurses := true, apart := false }
def TurnTellsSaid : Prop := turnTellsRow.holds Try.pinned (OpenSpec.ofChange turnTellsSpec)

/-- ITS FALSE NEIGHBOUR: 'it returns false'. Refute it at one input. -/
def turnTellsWrong : ChangeSpec := { name := "turnTells", fn := fun _ => fun
  | [d1, d2, d3] => { results := [.lit (.bool false)], args := [d1, d2, d3] }
  | _ => none }
def TurnTellsWrongFalsely : Prop := turnTellsRow.holds Try.pinned (OpenSpec.ofChange turnTellsWrong)

/-- 'hopperlaw10.TurnMay': WHATEVER THE INPUT: true; the input reads as it did. -/
def turnMaySpec : ChangeSpec := { name := "turnMay", fn := fun _ => fun
  | [d1, d2, d3] => { results := [.lit (.bool true)], args := [d1, d2, d3] }
  | _ => none }
def turnMayRow : OpenClaim := { program := "ytjeghmlingfnjaa", sum := "1cf2d6b4662c3211642a171c8cdc85029098ca5ace43477e181a8eb0ec281669", func := "hopper/hopperlaw10.TurnMay", spec := "turnMay", unfollowed := true, recurses := true, apart := false }
def TurnMaySaid : Prop := turnMayRow.holds Try.pinned (OpenSpec.ofChange turnMaySpec)

/-- ITS FALSE NEIGHBOUR: 'it returns false'. Refute it at one input. -/
def turnMayWrong : ChangeSpec := { name := "turnMay", fn := fun _ => fun
  | [d1, d2, d3] => { results := [.lit (.bool false)], args := [d1, d2, d3] }
  | _ => none }
def TurnMayWrongFalsely : Prop := turnMayRow.holds Try.pinned (OpenSpec.ofChange turnMayWrong)

/-- 'hopperlaw10.TurnRounds': WHATEVER THE INPUT: true; the input reads as it did. -/
def turnRoundsSpec : ChangeSpec := { name := "turnRounds", fn := fun _ => fun
  | [d1, d2] => { results := [.lit (.bool true)], args := [d1, d2] }
  | _ => none }
def turnRoundsRow : OpenClaim := { program := "ytjeghmlingfnjaa", sum := "1cf2d6b4662c3211642a171c8cdc85029098ca5ace43477e181a8eb0ec281669", func := "hopper/hopperlaw10.TurnRounds", spec := "turnRounds", unfollowed := true, recurses := true, apart := false }
def TurnRoundsSaid : Prop := turnRoundsRow.holds Try.pinned (OpenSpec.ofChange turnRoundsSpec)

/-- ITS FALSE NEIGHBOUR: 'it returns false'. Refute it at one input. -/
def turnRoundsWrong : ChangeSpec := { name := "turnRounds", fn := fun _ => fun
  | [d1, d2] => { results := [.lit (.bool false)], args := [d1, d2] }
  | _ => none }
def TurnRoundsWrongFalsely : Prop := turnRoundsRow.holds Try.pinned (OpenSpec.ofChange turnRoundsWrong)

/-- 'hopperlaw10.TurnNext': WHATEVER THE INPUT: true; the input reads as it did. -/
def turnNextSpec : ChangeSpec := { name := "turnNext", fn := fun _ => fun
  | [d1, d2] => { results := [.lit (.bool true)], args := [d1, d2] }
  | _ => none }
def turnNextRow : OpenClaim := { program := "ytjeghmlingfnjaa", sum := "1cf2d6b4662c3211642a171c8cdc85029098ca5ace43477e181a8eb0ec281669", func := "hopper/hopperlaw10.TurnNext", spec := "turnNext", unfollowed := true, recurses := true, apart := false }
def TurnNextSaid : Prop := turnNextRow.holds Try.pinned (OpenSpec.ofChange turnNextSpec)

/-- ITS FALSE NEIGHBOUR: 'it returns false'. Refute it at one input. -/
def turnNextWrong : ChangeSpec := { name := "turnNext", fn := fun _ => fun
  | [d1, d2] => { results := [.lit (.bool false)], args := [d1, d2] }
  | _ => none }
def TurnNextWrongFalsely : Prop := turnNextRow.holds Try.pinned (OpenSpec.ofChange turnNextWrong)

/-- 'hopperlaw10.TurnCount': WHATEVER THE INPUT: true; the input reads as it did. -/
def turnCountSpec : ChangeSpec := { name := "turnCount", fn := fun _ => fun
  | [d1, d2] => { results := [.lit (.bool true)], args := [d1, d2] }
  | _ => none }
def turnCountRow : OpenClaim := { program := "ytjeghmlingfnjaa", sum := "1cf2d6b4662c3211642a171c8cdc85029098ca5ace43477e181a8eb0ec281669", func := "hopper/hopperlaw10.TurnCount", spec := "turnCount", unfollowed := true, recurses := true, apart := false }
def TurnCountSaid : Prop := turnCountRow.holds Try.pinned (OpenSpec.ofChange turnCountSpec)

/-- ITS FALSE NEIGHBOUR: 'it returns false'. Refute it at one input. -/
def turnCountWrong : ChangeSpec := { name := "turnCount", fn := fun _ => fun
  | [d1, d2] => { results := [.lit (.bool false)], args := [d1, d2] }
  | _ => none }
def TurnCountWrongFalsely : Prop := turnCountRow.holds Try.pinned (OpenSpec.ofChange turnCountWrong)

/- THE SECOND FORM. 'bulk': how many values and letters a reading holds, each counted each time it is reached (what is shared counts as often as it is met; a slice's spare places count too). A statement '..UptoSaid' is the law's where the arguments, and the package variables that the reading takes, are together of bulk at most 1048576: NARROWER than '..Said'. Prove '..Said' where nothing that the law and all that it calls make is longer than what came in: it says more and counts as full. Else prove '..UptoSaid'. A law counts once. -/
mutual
def uptoBulk {H : Type} : DataW H → Nat
  | .lit (.string bytes) => bytes.length + 1
  | .lit _ => 1
  | .nil => 1
  | .ptr d => uptoBulk d + 1
  | .slice elems spare => uptoBulkAll elems + uptoBulkAll spare + 1
  | .agg parts => uptoBulkAll parts + 1
  | .iface _ d => uptoBulk d + 1
  | .map entries => uptoBulkEntries entries + 1
  | .held _ => 1
def uptoBulkAll {H : Type} : List (DataW H) → Nat
  | [] => 0
  | d :: r => uptoBulk d + uptoBulkAll r
def uptoBulkEntries {H : Type} : List (Lit × DataW H) → Nat
  | [] => 0
  | x :: r => uptoBulkEntry x + uptoBulkEntries r
def uptoBulkEntry {H : Type} : Lit × DataW H → Nat
  | (.string bytes, d) => bytes.length + uptoBulk d + 1
  | (_, d) => uptoBulk d + 1
 end
def uptoSmall : (H : Type) → List (DataW H) → Bool := fun _ ds => decide (uptoBulkAll ds ≤ 1048576)
def OpenSpec.upto (s : _root_.Go.ChangeSpec) : _root_.Go.OpenSpec := { _root_.Go.OpenSpec.ofChange s with cond := some uptoSmall }

/-- 'hopperlaw08.PipeTells', WHERE WHAT IT READS IS OF BULK AT MOST 1048576: true; the input reads as it did. -/
def pipeTellsUptoRow : OpenClaim := { program := "ytjeghmlingfnjaa", sum := "1cf2d6b4662c3211642a171c8cdc85029098ca5ace43477e181a8eb0ec281669", func := "hopper/hopperlaw08.PipeTells", spec := "pipeTells", apart := false, narrowed := true }
def PipeTellsUptoSaid : Prop := pipeTellsUptoRow.holds Try.pinned (OpenSpec.upto pipeTellsSpec)

/-- 'hopperlaw08.PipeRows', WHERE WHAT IT READS IS OF BULK AT MOST 1048576: true; the input reads as it did. -/
def pipeRowsUptoRow : OpenClaim := { program := "ytjeghmlingfnjaa", sum := "1cf2d6b4662c3211642a171c8cdc85029098ca5ace43477e181a8eb0ec281669", func := "hopper/hopperlaw08.PipeRows", spec := "pipeRows", apart := false, narrowed := true }
def PipeRowsUptoSaid : Prop := pipeRowsUptoRow.holds Try.pinned (OpenSpec.upto pipeRowsSpec)

/-- 'hopperlaw08.PipeCounts', WHERE WHAT IT READS IS OF BULK AT MOST 1048576: true; the input reads as it did. -/
def pipeCountsUptoRow : OpenClaim := { program := "ytjeghmlingfnjaa", sum := "1cf2d6b4662c3211642a171c8cdc85029098ca5ace43477e181a8eb0ec281669", func := "hopper/hopperlaw08.PipeCounts", spec := "pipeCounts", apart := false, narrowed := true }
def PipeCountsUptoSaid : Prop := pipeCountsUptoRow.holds Try.pinned (OpenSpec.upto pipeCountsSpec)

/-- 'hopperlaw08.PipeThrough', WHERE WHAT IT READS IS OF BULK AT MOST 1048576: true; the input reads as it did. -/
def pipeThroughUptoRow : OpenClaim := { program := "ytjeghmlingfnjaa", sum := "1cf2d6b4662c3211642a171c8cdc85029098ca5ace43477e181a8eb0ec281669", func := "hopper/hopperlaw08.PipeThrough", spec := "pipeThrough", apart := false, narrowed := true }
def PipeThroughUptoSaid : Prop := pipeThroughUptoRow.holds Try.pinned (OpenSpec.upto pipeThroughSpec)

/-- 'hopperlaw09.LockTells', WHERE WHAT IT READS IS OF BULK AT MOST 1048576: true; the input reads as it did. -/
def lockTellsUptoRow : OpenClaim := { program := "ytjeghmlingfnjaa", sum := "1cf2d6b4662c3211642a171c8cdc85029098ca5ace43477e181a8eb0ec281669", func := "hopper/hopperlaw09.LockTells", spec := "lockTells", unfollowed := true, recurses := true, apart := false, narrowed := true }
def LockTellsUptoSaid : Prop := lockTellsUptoRow.holds Try.pinned (OpenSpec.upto lockTellsSpec)

/-- 'hopperlaw09.LockRuns', WHERE WHAT IT READS IS OF BULK AT MOST 1048576: true; the input reads as it did. -/
def lockRunsUptoRow : OpenClaim := { program := "ytjeghmlingfnjaa", sum := "1cf2d6b4662c3211642a171c8cdc85029098ca5ace43477e181a8eb0ec281669", func := "hopper/hopperlaw09.LockRuns", spec := "lockRuns", unfollowed := true, recurses := true, apart := false, narrowed := true }
def LockRunsUptoSaid : Prop := lockRunsUptoRow.holds Try.pinned (OpenSpec.upto lockRunsSpec)

/-- 'hopperlaw09.LockOwn', WHERE WHAT IT READS IS OF BULK AT MOST 1048576: true; the input reads as it did. -/
def lockOwnUptoRow : OpenClaim := { program := "ytjeghmlingfnjaa", sum := "1cf2d6b4662c3211642a171c8cdc85029098ca5ace43477e181a8eb0ec281669", func := "hopper/hopperlaw09.LockOwn", spec := "lockOwn", unfollowed := true, recurses := true, apart := false, narrowed := true }
def LockOwnUptoSaid : Prop := lockOwnUptoRow.holds Try.pinned (OpenSpec.upto lockOwnSpec)

/-- 'hopperlaw09.LockFirst', WHERE WHAT IT READS IS OF BULK AT MOST 1048576: true; the input reads as it did. -/
def lockFirstUptoRow : OpenClaim := { program := "ytjeghmlingfnjaa", sum := "1cf2d6b4662c3211642a171c8cdc85029098ca5ace43477e181a8eb0ec281669", func := "hopper/hopperlaw09.LockFirst", spec := "lockFirst", unfollowed := true, recurses := true, apart := false, narrowed := true }
def LockFirstUptoSaid : Prop := lockFirstUptoRow.holds Try.pinned (OpenSpec.upto lockFirstSpec)

/-- 'hopperlaw10.TurnTells', WHERE WHAT IT READS IS OF BULK AT MOST 1048576: true; the input reads as it did. -/
def turnTellsUptoRow : OpenClaim := { program := "ytjeghmlingfnjaa", sum := "1cf2d6b4662c3211642a171c8cdc85029098ca5ace43477e181a8eb0ec281669", func := "hopper/hopperlaw10.TurnTells", spec := "turnTells", unfollowed := true, recurses := true, apart := false, narrowed := true }
def TurnTellsUptoSaid : Prop := turnTellsUptoRow.holds Try.pinned (OpenSpec.upto turnTellsSpec)

/-- 'hopperlaw10.TurnMay', WHERE WHAT IT READS IS OF BULK AT MOST 1048576: true; the input reads as it did. -/
def turnMayUptoRow : OpenClaim := { program := "ytjeghmlingfnjaa", sum := "1cf2d6b4662c3211642a171c8cdc85029098ca5ace43477e181a8eb0ec281669", func := "hopper/hopperlaw10.TurnMay", spec := "turnMay", unfollowed := true, recurses := true, apart := false, narrowed := true }
def TurnMayUptoSaid : Prop := turnMayUptoRow.holds Try.pinned (OpenSpec.upto turnMaySpec)

/-- 'hopperlaw10.TurnRounds', WHERE WHAT IT READS IS OF BULK AT MOST 1048576: true; the input reads as it did. -/
def turnRoundsUptoRow : OpenClaim := { program := "ytjeghmlingfnjaa", sum := "1cf2d6b4662c3211642a171c8cdc85029098ca5ace43477e181a8eb0ec281669", func := "hopper/hopperlaw10.TurnRounds", spec := "turnRounds", unfollowed := true, recurses := true, apart := false, narrowed := true }
def TurnRoundsUptoSaid : Prop := turnRoundsUptoRow.holds Try.pinned (OpenSpec.upto turnRoundsSpec)

/-- 'hopperlaw10.TurnNext', WHERE WHAT IT READS IS OF BULK AT MOST 1048576: true; the input reads as it did. -/
def turnNextUptoRow : OpenClaim := { program := "ytjeghmlingfnjaa", sum := "1cf2d6b4662c3211642a171c8cdc85029098ca5ace43477e181a8eb0ec281669", func := "hopper/hopperlaw10.TurnNext", spec := "turnNext", unfollowed := true, recurses := true, apart := false, narrowed := true }
def TurnNextUptoSaid : Prop := turnNextUptoRow.holds Try.pinned (OpenSpec.upto turnNextSpec)

/-- 'hopperlaw10.TurnCount', WHERE WHAT IT READS IS OF BULK AT MOST 1048576: true; the input reads as it did. -/
def turnCountUptoRow : OpenClaim := { program := "ytjeghmlingfnjaa", sum := "1cf2d6b4662c3211642a171c8cdc85029098ca5ace43477e181a8eb0ec281669", func := "hopper/hopperlaw10.TurnCount", spec := "turnCount", unfollowed := true, recurses := true, apart := false, narrowed := true }
def TurnCountUptoSaid : Prop := turnCountUptoRow.holds Try.pinned (OpenSpec.upto turnCountSpec)

end Rows
end Go.Proofs.Ytjeghmlingfnjaa
