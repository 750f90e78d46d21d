/- Of a tree of the program: has it brackets, and its token. -/
import Derived.Test.YtihpglkehkgioaaGreatDoorOwn36
import Derived.Test.YtihpglkehkgioaaGreatDoorOwn37
import Derived.Sort.Grow
namespace Go.Proofs.YtihpglkehkgioaaGreatDoor
open Go.RowKit Ar

/-- The table of powers of ten lies where the program's start has laid it. -/
def TenLaid (w : World) : Prop := Lib.TabIs Tryz.prog w "internal/strconv.uint64pow10" .u64 Lib.pow10Tab

def tenB : Nat := 1

theorem tenG : Tryz.prog.globalNamed "internal/strconv.uint64pow10" = some 1 := by kernel_rfl

theorem Ext.grow {S : Nat → Prop} {a w : World} (h : Ext S a w) (os : Array Obj) : Ext S a (Sort.grow w os) := by
  refine ⟨h.os, h.tape, h.output, Nat.le_trans h.size (by simp [Sort.grow]), fun k hk hs => ?_⟩
  rw [← h.block k hk hs]
  exact Array.getElem?_append_left (Nat.lt_of_lt_of_le hk h.size)

theorem TenLaid.lt {w : World} (h : TenLaid w) : tenB < w.heap.size := by
  unfold TenLaid Lib.TabIs World.var? at h
  rw [tenG, Option.bind_some] at h
  rcases Nat.lt_or_ge tenB w.heap.size with h1 | h1
  · exact h1
  · have h2 : w.heap[1]? = none := Array.getElem?_eq_none h1
    rw [h2] at h
    exact absurd h (by simp)

theorem TenLaid.ext {w w' : World} {S : Nat → Prop} (h : TenLaid w) (hx : Ext S w w') (hS : ¬ S tenB) : TenLaid w' := by
  have hb : w'.heap[1]? = w.heap[1]? := hx.block tenB h.lt hS
  unfold TenLaid Lib.TabIs World.var? at *
  rw [tenG, Option.bind_some] at *
  rw [hb]
  exact h

set_option maxHeartbeats 400000 in
theorem has_any {w : World} (k v : Int) (wd : ByteArray) (sa : Option Addr) (sn sc : Nat) :
    Calls Tryz.prog 61 #[.agg #[.int .i64 k, .string wd, .int .i64 v, .slice sa sn sc]] w fun e w' => e = .returned (.bool (decide (k = 1 ∨ k = 2 ∨ 0 < sn))) ∧ Ext (fun _ => False) w w' := by
  have hx : Ext (fun _ => False) w (w.alloc (.cells #[.int .i64 k, .string wd, .int .i64 v, .slice sa sn sc] 72)) := (Ext.refl _ w).alloc _
  have HX := hide hx
  clear hx
  cases h1 : (k == 1) with
  | true =>
    have e1 : k = 1 := by simpa using h1
    have E1 := hide e1
    clear e1
    go_enter Tryz.func61, Tryz.ntmps61
    go_wp2_with fail
    go_ret
    exact ⟨by simp [E1.out], HX.out⟩
  | false =>
    have e1 : ¬ k = 1 := by simpa using h1
    cases h2 : (k == 2) with
    | true =>
      have e2 : k = 2 := by simpa using h2
      have E1 := hide e1
      have E2 := hide e2
      clear e1 e2
      go_enter Tryz.func61, Tryz.ntmps61
      go_wp2_with fail
      go_ret
      exact ⟨by simp [E2.out], HX.out⟩
    | false =>
      have e2 : ¬ k = 2 := by simpa using h2
      have E1 := hide e1
      have E2 := hide e2
      clear e1 e2
      go_enter Tryz.func61, Tryz.ntmps61
      go_wp2_with fail
      go_ret
      exact ⟨by simp [E1.out, E2.out], HX.out⟩

set_option maxHeartbeats 400000 in
theorem tok_num {w : World} (k v : Int) (wd : ByteArray) (sa : Option Addr) (sn sc : Nat) (hk : k = 4 ∨ k = 5) (h0 : -1000 ≤ v) (h1 : v ≤ 1000) (ht : TenLaid w) :
    Calls Tryz.prog 63 #[.agg #[.int .i64 k, .string wd, .int .i64 v, .slice sa sn sc]] w fun e w' => e = .returned (.string ⟨(Lib.itoa v).toArray⟩) ∧ Ext (fun _ => False) w w' := by
  have hx : Ext (fun _ => False) w (w.alloc (.cells #[.int .i64 k, .string wd, .int .i64 v, .slice sa sn sc] 72)) := (Ext.refl _ w).alloc _
  have HX := hide hx
  have HT := hide (ht.ext hx (fun f => f))
  clear hx ht
  rcases hk with rfl | rfl
  · go_enter Tryz.func63, Tryz.ntmps63
    go_wp2_with fail
    refine (Tryz.strconv_Itoa v (by omega) (by omega) _ HT.out).mono ?_
    rintro e w2 ⟨rfl, n, os, rfl⟩
    go_wp2_with fail
    go_ret
    exact ⟨rfl, (HX.out.drewN n).grow os⟩
  · go_enter Tryz.func63, Tryz.ntmps63
    go_wp2_with fail
    refine (Tryz.strconv_Itoa v (by omega) (by omega) _ HT.out).mono ?_
    rintro e w2 ⟨rfl, n, os, rfl⟩
    go_wp2_with fail
    go_ret
    exact ⟨rfl, (HX.out.drewN n).grow os⟩

set_option maxHeartbeats 400000 in
theorem tok_word {w : World} (k v : Int) (wd : ByteArray) (sa : Option Addr) (sn sc : Nat) (h4 : (k == 4) = false) (h5 : (k == 5) = false) :
    Calls Tryz.prog 63 #[.agg #[.int .i64 k, .string wd, .int .i64 v, .slice sa sn sc]] w fun e w' => e = .returned (.string wd) ∧ Ext (fun _ => False) w w' := by
  have hx : Ext (fun _ => False) w (w.alloc (.cells #[.int .i64 k, .string wd, .int .i64 v, .slice sa sn sc] 72)) := (Ext.refl _ w).alloc _
  have HX := hide hx
  clear hx
  go_enter Tryz.func63, Tryz.ntmps63
  go_wp2_with fail
  go_ret
  exact ⟨rfl, HX.out⟩

theorem tok_any {w : World} (k v : Int) (wd : ByteArray) (sa : Option Addr) (sn sc : Nat) (hv : k = 4 ∨ k = 5 → -1000 ≤ v ∧ v ≤ 1000) (ht : TenLaid w) :
    Calls Tryz.prog 63 #[.agg #[.int .i64 k, .string wd, .int .i64 v, .slice sa sn sc]] w fun e w' => e = .returned (.string ⟨(tokOf k wd v).toArray⟩) ∧ Ext (fun _ => False) w w' := by
  by_cases hk : k = 4 ∨ k = 5
  · have := hv hk
    rw [tokOf, if_pos hk, ← itoa_lib this.1 this.2]
    exact tok_num k v wd sa sn sc hk this.1 this.2 ht
  · rw [tokOf, if_neg hk, show (⟨wd.toList.toArray⟩ : ByteArray) = wd from by rw [ByteArray.toList_eq]]
    exact tok_word k v wd sa sn sc (by simp; omega) (by simp; omega)

end Go.Proofs.YtihpglkehkgioaaGreatDoor
