/- A part of the proof. -/
import Derived.Test.YtegbdaffhpiacaaGreatDoorMod05
import Derived.Deep.LoopGhost
import Derived.Deep.RegionWith
import Derived.OwnWalk
namespace Go.Proofs.YtegbdaffhpiacaaGreatDoor
open Go.RowKit Ar
def W7(N:List Nm)(l:List UInt8):Rs Nd :=
 match K6 N (toks l).length 0 (toks l) with
 | .no e p=>.no e p
 | .ok _ []=>.no 0 0
 | .ok nd (t::ts)=>if t.txt.toList=[] then .ok nd (t::ts) else .no 2 t.pos
end Go.Proofs.YtegbdaffhpiacaaGreatDoor
