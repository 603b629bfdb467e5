/- The closed facts of hopper/hopperlaw18.SnapFails's claim. No condition. -/
import Derived.Test.YtdbjakibneeeiaaGreatDoorRows
import Derived.Test.YtdbjakibneeeiaaGreatDoorChecked
import Derived.WalkKit
import Derived.ProofKit
import Derived.OpenShut
import Derived.ChangeOld
import Derived.Handed
import Derived.SevenTiedAt
set_option linter.all false
set_option maxHeartbeats 4000000
set_option maxRecDepth 100000
namespace Go.Proofs.YtdbjakibneeeiaaGreatDoor.snapFails
theorem Ra {a b:Bool} (ha:a=true) (hb:b=true):(a&&b)=true:=by rw [ha,hb];rfl
theorem joined:joinedFacts Tryz.pinned.checked.prog 7 Tryz.f7 Rows.snapFailsSpec Rows.snapFailsRow=true:=by
 unfold joinedFacts
 repeat' with_reducible refine Ra ?_ ?_
 all_goals as_aux_lemma=>kernel_rfl
end Go.Proofs.YtdbjakibneeeiaaGreatDoor.snapFails
