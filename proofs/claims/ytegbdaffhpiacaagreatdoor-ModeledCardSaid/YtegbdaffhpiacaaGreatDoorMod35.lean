/- A part of the proof. -/
import Derived.Test.YtegbdaffhpiacaaGreatDoorMod08
import Derived.Test.YtegbdaffhpiacaaGreatDoorMod10
import Derived.Deep.AppendLies
import Derived.Deep.RegionLaw
namespace Go.Proofs.YtegbdaffhpiacaaGreatDoor
open Go.RowKit Ar
def nds(X:List Ld):List Nd:=X.map (·.nd)
end Go.Proofs.YtegbdaffhpiacaaGreatDoor
