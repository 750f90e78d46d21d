/- The reader of the document's own answer: its small methods. -/
import Derived.Test.YtegbdaffhpiacaaGreatDoorProg
import Derived.Test.YtegbdaffhpiacaaGreatDoorOwn02
namespace Go.Proofs.YtegbdaffhpiacaaGreatDoor
open Go.RowKit

set_option maxHeartbeats 400000 in
theorem next_any (w : World) (rb tb n cap : Nat) (i : Nat) (s : ByteArray) (hi : i < n)
    (c0 : w.cell? ⟨rb, 0, none⟩ = some (.slice (some ⟨tb, 0, none⟩) n cap)) (c1 : w.cell? ⟨rb, 1, none⟩ = some (.int .i64 i))
    (ct : w.cell? ⟨tb, i * 2 + 1, none⟩ = some (.string s)) :
    Calls Tryz.prog 161 #[.pointer (some ⟨rb, 0, none⟩)] w fun e w' => e = .returned (.string s) ∧ ∃ n, w' = w.drewN n := by
  go_enter Tryz.func161, Tryz.ntmps161
  go_wp2
  go_quiet (fail)
  go_wp2
  go_ret
  exact ⟨rfl, _, rfl⟩

set_option maxHeartbeats 400000 in
theorem fail_dead (w : World) (rb : Nat) (e : Int) (k : Int) (hk : ¬ k = 0)
    (c4 : w.cell? ⟨rb, 4, none⟩ = some (.int .i64 k)) :
    Calls Tryz.prog 162 #[.pointer (some ⟨rb, 0, none⟩), .int .i64 e] w fun en w' => en = .returned (.tuple #[]) ∧ w' = w := by
  go_enter Tryz.func162, Tryz.ntmps162
  go_wp2
  go_end0
  exact ⟨rfl, rfl⟩

set_option maxHeartbeats 400000 in
theorem fail_live (w : World) (rb tb n cap : Nat) (i : Nat) (e : Int) (pl : Int) (ol : Value) (hi : i < n)
    (c0 : w.cell? ⟨rb, 0, none⟩ = some (.slice (some ⟨tb, 0, none⟩) n cap)) (c1 : w.cell? ⟨rb, 1, none⟩ = some (.int .i64 i))
    (c4 : w.cell? ⟨rb, 4, none⟩ = some (.int .i64 0)) (f4 : w.frozen? ⟨rb, 4, none⟩ = false)
    (c5 : w.cell? ⟨rb, 5, none⟩ = some ol) (f5 : w.frozen? ⟨rb, 5, none⟩ = false) (hne : ¬ tb = rb)
    (ct : w.cell? ⟨tb, i * 2, none⟩ = some (.int .i64 pl)) :
    Calls Tryz.prog 162 #[.pointer (some ⟨rb, 0, none⟩), .int .i64 e] w fun en w' => en = .returned (.tuple #[]) ∧ ∃ n, w' = ((w.setCell ⟨rb, 4, none⟩ (.int .i64 e)).setCell ⟨rb, 5, none⟩ (.int .i64 pl)).drewN n := by
  go_enter Tryz.func162, Tryz.ntmps162
  go_wp2
  go_region
  go_outline
  all_goals (go_end0; exact ⟨rfl, 1, rfl⟩)

end Go.Proofs.YtegbdaffhpiacaaGreatDoor
