/- Layer 18 (snap), purely: arguments as they may be, with the document's word whether a sight may be. -/
import Derived.Test.YtdbjakibneeeiaaGreatDoorKExPk
set_option linter.all false
set_option maxHeartbeats 4000000
set_option maxRecDepth 100000
namespace Go.Proofs.YtdbjakibneeeiaaGreatDoor.Ex
open Go.RowKit Sx
def M8 (g:Int):F_3 (g,())=some ((g,(0:Int),(0:Int),(0:Int),[],[],((0:Int),((0:Int),(0:Int),(0:Int),(0:Int),(0:Int),ByteArray.empty,()),[],(0:Int),()),()),()):=WU (g,())
def EM (g:Int):cU:=(g,0,0,0,[],[],(0,(0,0,0,0,0,ByteArray.empty,()),[],0,()),())
def a0O (g:Int) (h:Fits g):kL 0 (EM g):=⟨Nat.le_refl _,⟨Nat.le_refl _,fun c hc=>(by cases hc)⟩,Nat.zero_le _,bS h.1 (Int.lt_add_one_iff.1 h.2)⟩
end Go.Proofs.YtdbjakibneeeiaaGreatDoor.Ex
