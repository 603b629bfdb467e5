/- Layer 18 (snap), purely: arguments as they may be, with the document's word whether a sight may be. -/
import Derived.Test.YtdbjakibneeeiaaGreatDoorKG43ExRd
set_option linter.all false
set_option maxHeartbeats 4000000
set_option maxRecDepth 100000
namespace Go.Proofs.YtdbjakibneeeiaaGreatDoor.Ex
open Go.RowKit Sx
def M8 (g:Int):F_3 (g,())=some ((g,(0:Int),(0:Int),(0:Int),[],[],((0:Int),((0:Int),(0:Int),(0:Int),(0:Int),(0:Int),ByteArray.empty,()),[],(0:Int),()),()),()):=WU (g,())
def EM (g:Int):cU:=(g,0,0,0,[],[],(0,(0,0,0,0,0,ByteArray.empty,()),[],0,()),())
end Go.Proofs.YtdbjakibneeeiaaGreatDoor.Ex
