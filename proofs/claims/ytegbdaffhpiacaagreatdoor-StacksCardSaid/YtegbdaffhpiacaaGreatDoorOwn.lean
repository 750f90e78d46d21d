/- Stacks (promises P3 to P7): for every script of calls of Declare, Tidy, Assert, Push, Pop and Count on two sessions, and every other step passed over, the law returns true, and the script reads as it did; the package variables listed in the row hold what the program's text lays. -/
import Derived.Test.YtegbdaffhpiacaaGreatDoorOwn34
import Derived.Test.YtegbdaffhpiacaaGreatDoorOwn37
namespace Go.Proofs.YtegbdaffhpiacaaGreatDoor
open Go.RowKit Ar

set_option maxHeartbeats 400000 in
theorem stacks_walk : Walked 4 := by
  intro W sa n cap hn hS hhd hten
  have HP := hide (plays_any stacks_game (by decide) W sa n cap hn hS hhd hten)
  clear hn hS hhd hten
  go_enter Tryz.func4, Tryz.ntmps4
  go_wp2_with fail
  refine HP.out.mono ?_
  rintro e w' ⟨rfl, hx⟩
  have HX := hide hx
  clear hx
  go_wp2_with fail
  go_ret
  exact ⟨rfl, HX.out⟩

theorem stacks_holds : Rows.StacksCardSaid := stacks_card stacks_walk

end Go.Proofs.YtegbdaffhpiacaaGreatDoor
