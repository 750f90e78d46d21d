/- The writing methods of a strings.Builder of the call's own: what they leave, and that all other blocks but rows of bytes stand as they stood. -/
import Derived.Test.YtegbdaffhpiacaaGreatDoorOwn18
import Derived.Lib.Builder
import Derived.Lib.AppendStr
import Derived.Lib.UnsafeStr
import Derived.Laws.Externs
namespace Go.Proofs.YtegbdaffhpiacaaGreatDoor
open Go.RowKit Ar

/-- What a writing may touch: the builder, and rows of bytes from B on. -/
def BT (B b : Nat) (w : World) (k : Nat) : Prop := k = b ∨ (B ≤ k ∧ ∃ cs fr, w.heap[k]? = some (.cells cs 5 fr))

def BX (B b : Nat) (w w' : World) : Prop := Ext (BT B b w) w w'

theorem BX.refl (B b : Nat) (w : World) : BX B b w w := Ext.refl _ w

theorem BX.trans {B b : Nat} {w w1 w2 : World} (h : BX B b w w1) (k : BX B b w1 w2) : BX B b w w2 := by
  refine ⟨k.os.trans h.os, k.tape.trans h.tape, k.output.trans h.output, Nat.le_trans h.size k.size, fun i hi hs => ?_⟩
  have h1 := h.block i hi hs
  refine (k.block i (Nat.lt_of_lt_of_le hi h.size) ?_).trans h1
  rintro (e | ⟨hB, cs, fr, hc⟩)
  · exact hs (.inl e)
  · exact hs (.inr ⟨hB, cs, fr, h1 ▸ hc⟩)

theorem BX.new {B b : Nat} {w w1 w2 : World} (h : BX B b w w1) (k : Ext (fun _ => False) w1 w2) : BX B b w w2 := h.trans (k.mono (fun _ _ f => f.elim))

/-- A builder that holds these bytes. -/
abbrev IsB (B b : Nat) (l : List UInt8) (w : World) : Prop := Lib.IsBuilder 228 5 B b (Lib.byteCells l) w

theorem infoB : (Tryz.prog.info? 228).map (·.size) = some 2 := by kernel_rfl
theorem liesB : liesAt Tryz.prog Tryz.prog.depth 228 (2 / Tryz.prog.cellsOf 228) 0 228 1 = true := by kernel_rfl
theorem infoU8 : (Tryz.prog.info? 5).map (fun i => (i.zero, i.size, i.bytes)) = some (some (.int .u8 0), 1, 1) := by kernel_rfl

set_option maxHeartbeats 1000000 in
set_option maxRecDepth 100000 in
theorem copy_used (b : Nat) (w : World) (h0 : w.cell? ⟨b, 0, none⟩ = some (.pointer (some ⟨b, 0, none⟩))) :
    Calls Tryz.prog 193 #[.pointer (some ⟨b, 0, none⟩)] w fun e w' => e = .returned (.tuple #[]) ∧ w' = w := by
  obtain ⟨j, hj, _⟩ := Option.map_eq_some_iff.1 infoB
  go_enter Tryz.func193, Tryz.ntmps193
  go_wp2_with fail
  rw [Lib.run_neq_ptr_same w _ Tryz.underlying225 hj]
  go_wp2_with fail
  go_end0
  exact ⟨rfl, rfl⟩

set_option maxHeartbeats 1000000 in
set_option maxRecDepth 100000 in
theorem copy_fresh (b : Nat) (w : World) (h0 : w.cell? ⟨b, 0, none⟩ = some (.pointer none)) (hsh : w.shape? b = some (228, 2)) (hfz : w.frozen? ⟨b, 0, none⟩ = false) :
    Calls Tryz.prog 193 #[.pointer (some ⟨b, 0, none⟩)] w fun e w' => e = .returned (.tuple #[]) ∧ w' = w.setCell ⟨b, 0, none⟩ (.pointer (some ⟨b, 0, none⟩)) := by
  obtain ⟨j, hj, hjs⟩ := Option.map_eq_some_iff.1 infoB
  go_enter Tryz.func193, Tryz.ntmps193
  go_wp2_with fail
  rw [Lib.run_to_unsafe w ⟨b, 0, none⟩ Tryz.underlying225 Tryz.underlying342 hj (by rw [hjs]; decide) hsh (Nat.zero_lt_succ 1)]
  simp only [Result.andThen]
  rw [Oper.upon_value]
  go_wp2_with fail
  rw [run_callFunc_extern Tryz.func216 (by kernel_rfl) (by kernel_rfl) (by kernel_rfl) (e := Extern.AbiNoEscape.same) (by kernel_rfl)]
  rw [Lib.run_noEscape]
  simp only [Result.andThen]
  rw [Oper.upon_value]
  go_wp2_with fail
  rw [Lib.run_from_unsafe w ⟨b, 0, none⟩ Tryz.underlying342 Tryz.underlying225 hj hsh liesB]
  simp only [Result.andThen]
  rw [Oper.upon_value]
  go_wp2_with fail
  go_end0
  exact ⟨rfl, rfl⟩

theorem copy_any {B b : Nat} {l : List UInt8} {w : World} (h : IsB B b l w) :
    Calls Tryz.prog 193 #[.pointer (some ⟨b, 0, none⟩)] w fun e w' => e = .returned (.tuple #[]) ∧ Lib.BuilderAt 228 5 B b (.pointer (some ⟨b, 0, none⟩)) (Lib.byteCells l) w' ∧ BX B b w w' := by
  rcases h with h | h
  · refine (copy_fresh b w h.cell0 h.shape h.frozen0).mono ?_
    rintro e w' ⟨rfl, rfl⟩
    exact ⟨rfl, h.used _, (Ext.refl _ w).setCell (p := ⟨b, 0, none⟩) (fun _ => .inl rfl) _⟩
  · refine (copy_used b w h.cell0).mono ?_
    rintro e w' ⟨rfl, rfl⟩
    exact ⟨rfl, h, BX.refl B b _⟩

theorem own_u8 {B b : Nat} {v : Value} {n : Nat} {xs : List Value} {w : World} (hown : w.ownsRow B 5 1 v n xs) : ∀ k, v.ownBlock = some k → BT B b w k := by
  intro k hk
  rcases hown.2 with ⟨hv, _⟩ | ⟨g, cap, cur, hv, hg, hb, _⟩
  · rw [hv] at hk; exact absurd hk (by simp [Value.ownBlock])
  · rw [hv] at hk
    simp [Value.ownBlock] at hk
    subst hk
    exact .inr ⟨hg, cur, (0, 0), hb⟩

theorem lt_of_block {w : World} {b : Nat} {o : Obj} (h : w.heap[b]? = some o) : b < w.heap.size := block_lt h

set_option maxHeartbeats 1000000 in
set_option maxRecDepth 100000 in
theorem b_byte {B b : Nat} {l : List UInt8} {w : World} (c : UInt8) (h : IsB B b l w) (hlen : l.length + 1 ≤ 100000000) (hBw : B ≤ w.heap.size) :
    Calls Tryz.prog 157 #[.pointer (some ⟨b, 0, none⟩), .int .u8 c.toNat] w fun e w' => e = .returned .nilIface ∧ IsB B b (l ++ [c]) w' ∧ BX B b w w' := by
  obtain ⟨i0, hi, hz0, hz1, hz2⟩ := info_parts infoU8
  have HI : Hid (Tryz.prog.info? 5 = some i0 ∧ i0.zero = some (.int .u8 0) ∧ i0.size = 1 ∧ i0.bytes = 1) := ⟨hi, hz0, hz1, hz2⟩
  clear hi hz0 hz1 hz2
  have H := hide h
  clear h
  go_enter Tryz.func157, Tryz.ntmps157
  go_wp2_with (go_at_call 193; refine (copy_any H.out).mono ?_)
  rintro e w1 ⟨rfl, h1, hb1⟩
  obtain ⟨hB, v, hbk, hown, hne⟩ := h1
  have HB1 := hide hb1
  have hsz := hb1.size
  obtain ⟨hi, hz0, hz1, hz2⟩ := HI.out
  have c0 : w1.cell? ⟨b, 0, none⟩ = some (.pointer (some ⟨b, 0, none⟩)) := cell_of_block hbk 0
  have c1 : w1.cell? ⟨b, 1, none⟩ = some v := cell_of_block hbk 1
  have hlt := block_lt hbk
  have hbn : ¬ b = w1.heap.size := by omega
  clear hb1
  go_wp2_with (at_builtin; refine wpList_append_own_at _ rfl _ _ 226 rfl B 5 i0 (.int .u8 0) 1 1 Tryz.underlying226 hi hz0 hz1 hz2 rfl (by decide) _ _ _ rfl (hown.alloc _) ⟨w1.heap.size, 0, none⟩ 1 1 [.int .u8 c.toNat] rfl rfl ?c1 ?c2 ?c3 ?c4 ?c5 ?_)
  case c1 =>
    intro j u hj
    match j, hj with
    | 0, hj => simp at hj; subst hj; simp [Addr.add]
  case c2 => intro u hu; simp at hu; subst hu; rfl
  case c3 => rw [Lib.byteCells_length]; unfold maxLen; omega
  case c4 => rw [Lib.byteCells_length]; omega
  case c5 => simp; omega
  intro v' w2 hown' hgrow _ _
  have hx2 : BX B b w1 w2 := ((Ext.refl _ w1).alloc _).grown hgrow (fun k hk _ => own_u8 hown k hk)
  have hb2 : w2.heap[b]? = some (.cells #[.pointer (some ⟨b, 0, none⟩), v] 228 (0, 0)) := by
    rw [hgrow.block b (by simp; omega) (fun e => hne e.symm), heap_alloc_old w1 _ hlt]
    exact hbk
  have d0 : w2.cell? ⟨b, 0, none⟩ = some (.pointer (some ⟨b, 0, none⟩)) := cell_of_block hb2 0
  have d1 : w2.cell? ⟨b, 1, none⟩ = some v := cell_of_block hb2 1
  have f1 : w2.frozen? ⟨b, 1, none⟩ = false := frozen_of_block hb2 1
  obtain ⟨g, cap, rfl⟩ : ∃ g cap, v' = .slice (some ⟨g, 0, none⟩) ((Lib.byteCells l).length + 1) cap := by
    rcases hown'.2 with ⟨_, h0⟩ | ⟨g, cap, cur, hv, _⟩
    · omega
    · exact ⟨g, cap, hv⟩
  have HX2 := hide hx2
  have HO := hide hown'
  have HB2 := hide hb2
  clear hgrow hx2 hown' hb2 c0 c1 hi hz0 hz1 hz2
  go_wp2_with fail
  go_ret
  refine ⟨rfl, .inr ?_, ?_⟩
  · exact Lib.BuilderAt.put (T := 228) (e := 5) hB HB2.out (bs' := Lib.byteCells (l ++ [c])) (by rw [show Lib.byteCells (l ++ [c]) = Lib.byteCells l ++ [.int .u8 c.toNat] from by simp [Lib.byteCells], List.length_append]; exact HO.out) (by decide)
  · exact (HB1.out.trans HX2.out).trans ((Ext.refl _ w2).setCell (p := ⟨b, 1, none⟩) (fun _ => .inl rfl) _)

set_option maxHeartbeats 1000000 in
set_option maxRecDepth 100000 in
theorem b_string {B b : Nat} {l : List UInt8} {w : World} (s : ByteArray) (h : IsB B b l w) (hlen : l.length + s.size ≤ 100000000) (hBw : B ≤ w.heap.size) :
    Calls Tryz.prog 155 #[.pointer (some ⟨b, 0, none⟩), .string s] w fun e w' => e = .returned (.tuple #[.int .i64 s.size, .nilIface]) ∧ IsB B b (l ++ s.toList) w' ∧ BX B b w w' := by
  obtain ⟨i0, hi, hz0, hz1, hz2⟩ := info_parts infoU8
  have HI : Hid (Tryz.prog.info? 5 = some i0 ∧ i0.zero = some (.int .u8 0) ∧ i0.size = 1 ∧ i0.bytes = 1) := ⟨hi, hz0, hz1, hz2⟩
  clear hi hz0 hz1 hz2
  have H := hide h
  clear h
  go_enter Tryz.func155, Tryz.ntmps155
  go_wp2_with (go_at_call 193; refine (copy_any H.out).mono ?_)
  rintro e w1 ⟨rfl, h1, hb1⟩
  obtain ⟨hB, v, hbk, hown, hne⟩ := h1
  have HB1 := hide hb1
  have hsz := hb1.size
  obtain ⟨hi, hz0, hz1, hz2⟩ := HI.out
  have c0 : w1.cell? ⟨b, 0, none⟩ = some (.pointer (some ⟨b, 0, none⟩)) := cell_of_block hbk 0
  have c1 : w1.cell? ⟨b, 1, none⟩ = some v := cell_of_block hbk 1
  have hlt := block_lt hbk
  clear hb1
  go_wp2_with (at_builtin; refine Lib.wpList_append_own_string _ rfl _ _ 226 9 rfl B 5 i0 Tryz.underlying226 Tryz.underlying9 hi hz0 hz1 hz2 _ _ _ rfl hown s rfl ?c3 ?c4 ?c5 ?_)
  case c3 => rw [Lib.byteCells_length]; unfold maxLen; omega
  case c4 => rw [Lib.byteCells_length]; omega
  case c5 => omega
  intro v' w2 hown' hgrow _
  have hx2 : BX B b w1 w2 := (Ext.refl _ w1).grown hgrow (fun k hk _ => own_u8 hown k hk)
  have hb2 : w2.heap[b]? = some (.cells #[.pointer (some ⟨b, 0, none⟩), v] 228 (0, 0)) := by
    rw [hgrow.block b (by omega) (fun e => hne e.symm)]
    exact hbk
  have d0 : w2.cell? ⟨b, 0, none⟩ = some (.pointer (some ⟨b, 0, none⟩)) := cell_of_block hb2 0
  have d1 : w2.cell? ⟨b, 1, none⟩ = some v := cell_of_block hb2 1
  have f1 : w2.frozen? ⟨b, 1, none⟩ = false := frozen_of_block hb2 1
  obtain ⟨ao, cap, rfl⟩ : ∃ ao cap, v' = .slice ao ((Lib.byteCells l).length + s.size) cap := by
    rcases hown'.2 with ⟨hv, h0⟩ | ⟨g, cap, cur, hv, _⟩
    · exact ⟨none, 0, by rw [hv, h0]⟩
    · exact ⟨_, _, hv⟩
  have HX2 := hide hx2
  have HO := hide hown'
  have HB2 := hide hb2
  clear hgrow hx2 hown' hb2 c0 c1 hi hz0 hz1 hz2
  go_wp2_with fail
  go_ret2
  refine ⟨rfl, .inr ?_, ?_⟩
  · exact Lib.BuilderAt.put (T := 228) (e := 5) hB HB2.out (bs' := Lib.byteCells (l ++ s.toList)) (by rw [show Lib.byteCells (l ++ s.toList) = Lib.byteCells l ++ Lib.strCells s from by simp [Lib.byteCells, Lib.strCells, ByteArray.toList_eq], List.length_append, Lib.strCells_length]; exact HO.out) (by decide)
  · exact (HB1.out.trans HX2.out).trans ((Ext.refl _ w2).setCell (p := ⟨b, 1, none⟩) (fun _ => .inl rfl) _)

end Go.Proofs.YtegbdaffhpiacaaGreatDoor
