/- The document's own answer: a text is read as a formula. -/
import Derived.Test.YtegbdaffhpiacaaGreatDoorBck05
import Derived.Test.YtegbdaffhpiacaaGreatDoorBck03
import Derived.Deep.LoopGhost
import Derived.Deep.RegionWith
import Derived.OwnWalk
namespace Go.Proofs.YtegbdaffhpiacaaGreatDoor
open Go.RowKit Ar
def X8 (N:List Nm) (l:List UInt8):Rs Nd :=
 match K6 N (toks l).length 0 (toks l) with
 | .no e p=>.no e p
 | .ok _ []=>.no 0 0
 | .ok nd (t :: ts)=>if t.txt.toList=[] then .ok nd (t :: ts) else .no 2 t.pos
end Go.Proofs.YtegbdaffhpiacaaGreatDoor
