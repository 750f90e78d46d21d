/- Reads (promises P3, P4, P5): for every script of calls of Declare and Tidy on two sessions, and every other step passed over, the law returns true, and the script reads as it did; the package variables listed in the row hold what the program's text lays. -/
import Derived.Test.YtegbdaffhpiacaaGreatDoorOwn24
import Derived.Test.YtegbdaffhpiacaaGreatDoorOwn27
namespace Go.Proofs.YtegbdaffhpiacaaGreatDoor
open Go.RowKit Ar

set_option maxHeartbeats 400000 in
theorem reads_walk : Walked 3 := by
  intro W sa n cap hn hS hhd hten
  have HP := hide (plays_any reads_game (by decide) W sa n cap hn hS hhd hten)
  clear hn hS hhd hten
  go_enter Tryz.func3, Tryz.ntmps3
  go_wp2_with fail
  refine HP.out.mono ?_
  rintro e w' ⟨rfl, hx⟩
  have HX := hide hx
  clear hx
  go_wp2_with fail
  go_ret
  exact ⟨rfl, HX.out⟩

theorem reads_holds : Rows.ReadsCardSaid := reads_card reads_walk

end Go.Proofs.YtegbdaffhpiacaaGreatDoor
