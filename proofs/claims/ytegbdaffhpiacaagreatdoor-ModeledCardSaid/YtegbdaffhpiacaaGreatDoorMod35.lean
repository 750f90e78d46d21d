/- A part of the proof. -/
import Derived.Test.YtegbdaffhpiacaaGreatDoorMod08
import Derived.Test.YtegbdaffhpiacaaGreatDoorMod10
import Derived.Deep.AppendLies
import Derived.Deep.RegionLaw
namespace Go.Proofs.YtegbdaffhpiacaaGreatDoor
open Go.RowKit Ar
end Go.Proofs.YtegbdaffhpiacaaGreatDoor
