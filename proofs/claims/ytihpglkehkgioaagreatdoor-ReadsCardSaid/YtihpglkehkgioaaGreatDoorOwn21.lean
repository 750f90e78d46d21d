/- The program's table of first words, and how it is looked up. -/
import Derived.Test.YtihpglkehkgioaaGreatDoorOwn20
namespace Go.Proofs.YtihpglkehkgioaaGreatDoor
open Go.RowKit Ar

theorem hd_index (w : World) : ∀ (k : Nat) (x : ByteArray × Int × Int), hdRows[k]? = some x → Sem.run Tryz.prog (Instr.index 212 (.agg hdCells) (.int .i64 (k : Int))) w = .ok (.agg #[.string x.1, .int .i64 x.2.1, .int .i64 x.2.2]) w
  | 0, x, h => by simp [hdRows] at h; subst h; kernel_rfl
  | 1, x, h => by simp [hdRows] at h; subst h; kernel_rfl
  | 2, x, h => by simp [hdRows] at h; subst h; kernel_rfl
  | 3, x, h => by simp [hdRows] at h; subst h; kernel_rfl
  | 4, x, h => by simp [hdRows] at h; subst h; kernel_rfl
  | 5, x, h => by simp [hdRows] at h; subst h; kernel_rfl
  | 6, x, h => by simp [hdRows] at h; subst h; kernel_rfl
  | 7, x, h => by simp [hdRows] at h; subst h; kernel_rfl
  | 8, x, h => by simp [hdRows] at h; subst h; kernel_rfl
  | k + 9, x, h => by simp [hdRows] at h

def hdFind (l : List UInt8) : Option (ByteArray × Int × Int) := hdRows.find? (fun x => x.1.toList == l)

theorem hdFind_eq (l : List UInt8) : hdOf l = (hdFind l).map (·.2) := by
  have e : ∀ (x : List UInt8), (x == l) = decide (l = x) := fun x => by
    cases h : (x == l) with
    | true => rw [beq_iff_eq.1 h]; simp
    | false => exact (decide_eq_false (fun e => by rw [e] at h; simp at h)).symm
  unfold hdOf hdFind hdRows
  simp only [List.find?, e]
  have b0 : (⟨#[110, 111, 116]⟩ : ByteArray).toList = wNot := by kernel_rfl
  have b1 : (⟨#[97, 110, 100]⟩ : ByteArray).toList = wAnd := by kernel_rfl
  have b2 : (⟨#[111, 114]⟩ : ByteArray).toList = wOr := by kernel_rfl
  have b3 : (⟨#[61, 62]⟩ : ByteArray).toList = [61, 62] := by kernel_rfl
  have b4 : (⟨#[105, 102, 102]⟩ : ByteArray).toList = wIff := by kernel_rfl
  have b5 : (⟨#[61]⟩ : ByteArray).toList = [61] := by kernel_rfl
  have b6 : (⟨#[60]⟩ : ByteArray).toList = [60] := by kernel_rfl
  have b7 : (⟨#[60, 61]⟩ : ByteArray).toList = [60, 61] := by kernel_rfl
  have b8 : (⟨#[108, 101]⟩ : ByteArray).toList = wLe := by kernel_rfl
  rw [b0, b1, b2, b3, b4, b5, b6, b7, b8]
  by_cases h0 : l = wNot
  · simp [h0]
  by_cases h1 : l = wAnd
  · simp [h1, wAnd, wNot]
  by_cases h2 : l = wOr
  · simp [h2, wAnd, wNot, wOr]
  by_cases h3 : l = [61, 62]
  · simp [h3, wAnd, wNot, wOr]
  by_cases h4 : l = wIff
  · simp [h4, wAnd, wNot, wOr, wIff]
  by_cases h5 : l = [61]
  · simp [h5, wAnd, wNot, wOr, wIff]
  by_cases h6 : l = [60]
  · simp [h6, wAnd, wNot, wOr, wIff]
  by_cases h7 : l = [60, 61]
  · simp [h7, wAnd, wNot, wOr, wIff]
  by_cases h8 : l = wLe
  · simp [h8, wAnd, wNot, wOr, wIff, wLe]
  simp [h0, h1, h2, h3, h4, h5, h6, h7, h8]

theorem hd_hit {l : List UInt8} {k : Nat} {x : ByteArray × Int × Int} (ha : (hdRows.take k).find? (fun x => x.1.toList == l) = none) (hx : hdRows[k]? = some x) (hq : (x.1.toList == l) = true) : hdFind l = some x := by
  have hlt : k < hdRows.length := by
    rcases Nat.lt_or_ge k hdRows.length with h | h
    · exact h
    · rw [List.getElem?_eq_none h] at hx; exact absurd hx (by simp)
  have hsp : hdRows = hdRows.take k ++ x :: hdRows.drop (k + 1) := by
    conv => lhs; rw [← List.take_append_drop k hdRows]
    rw [List.drop_eq_getElem_cons hlt]
    rw [List.getElem?_eq_getElem hlt] at hx
    rw [Option.some.inj hx]
  unfold hdFind
  rw [hsp, List.find?_append, ha]
  simp [hq]

theorem hd_snoc {l : List UInt8} {k : Nat} {x : ByteArray × Int × Int} (ha : (hdRows.take k).find? (fun x => x.1.toList == l) = none) (hx : hdRows[k]? = some x) (hq : (x.1.toList == l) = false) : (hdRows.take (k + 1)).find? (fun x => x.1.toList == l) = none := by
  rw [List.take_add_one, hx, List.find?_append, ha]
  simp [hq]

def hdRes (o : Option (ByteArray × Int × Int)) : Value :=
  match o with
  | some x => .tuple #[.agg #[.string x.1, .int .i64 x.2.1, .int .i64 x.2.2], .bool true]
  | none => .tuple #[.agg #[.string ⟨#[]⟩, .int .i64 0, .int .i64 0], .bool false]

set_option maxHeartbeats 400000 in
theorem p_head {w : World} (s : ByteArray) (hg : HdLaid w) :
    Calls Tryz.prog 89 #[.string s] w fun e w' => e = .returned (hdRes (hdFind s.toList)) ∧ Ext (fun _ => False) w w' := by
  obtain ⟨t, fr, hb⟩ := hg
  have hx := hd_index
  have hlt := block_lt hb
  have HB : Hid ((w.alloc (.cells #[.string ⟨#[]⟩, .int .i64 0, .int .i64 0] 190)).heap[0]? = some (.cells hdCells t fr)) := (heap_alloc_old w _ hlt).trans hb
  clear hb
  go_enter Tryz.func89, Tryz.ntmps89
  go_wp2_with (refine wpList_load_row rfl 212 _ rfl 0 rfl t hdCells fr _ HB.out Tryz.underlying212 rfl (by kernel_rfl) ?_)
  go_loopw [7] (fun i wr => ∃ k : Nat, k ≤ 9 ∧ i = .int .i64 k ∧ (hdRows.take k).find? (fun x => x.1.toList == s.toList) = none ∧ Ext (fun _ => False) (w.alloc (.cells #[.string ⟨#[]⟩, .int .i64 0, .int .i64 0] 190)) wr) (fun i _ => 9 - (intOf i).toNat)
  case atStart => exact ⟨0, Nat.zero_le _, rfl, rfl, Ext.refl _ _⟩
  case round =>
    obtain ⟨k, hk, rfl, ha, hE⟩ := hrel
    have HA := hide ha
    have kb : wr.heap[w.heap.size]? = some (.cells #[.string ⟨#[]⟩, .int .i64 0, .int .i64 0] 190) := (hE.block _ (block_lt (heap_alloc_new w _)) (fun f => f)).trans (heap_alloc_new w _)
    have z0 := cell_of_block kb 0
    have z1 := cell_of_block kb 1
    have z2 := cell_of_block kb 2
    have y0 := frozen_of_block kb 0
    have y1 := frozen_of_block kb 1
    have y2 := frozen_of_block kb 2
    have hlt0 : w.heap.size < wr.heap.size := block_lt kb
    have hwn : ¬ w.heap.size = wr.heap.size := by omega
    have HE := hide hE
    have HE0 : Hid (Ext (fun _ => False) w wr) := ((Ext.refl _ w).alloc _).trans hE
    clear ha hE kb
    by_cases hlt : k < 9
    · obtain ⟨x, hx0⟩ : ∃ x, hdRows[k]? = some x := ⟨_, List.getElem?_eq_getElem (l := hdRows) (i := k) hlt⟩
      have hix : ∀ w, _ := fun w => hx w k x hx0
      have HX := hide hx0
      clear hx0 hx
      cases hq : (x.1.toList == s.toList) with
      | true =>
        go_wp2_with fail
        refine bodyPost_ret (v := .tuple #[.agg #[.string x.1, .int .i64 x.2.1, .int .i64 x.2.2], .bool true]) (by simp [results, Tryz.results89, go_sem, z0, z1, z2, hlt0]) rfl ⟨by rw [hd_hit HA.out HX.out hq]; rfl, ?_⟩
        refine Ext.alloc ?_ _
        exact ((HE0.out.setCell (p := ⟨w.heap.size, 0, none⟩) (fun h => absurd h (Nat.lt_irrefl _)) _).setCell (p := ⟨w.heap.size, 1, none⟩) (fun h => absurd h (Nat.lt_irrefl _)) _).setCell (p := ⟨w.heap.size, 2, none⟩) (fun h => absurd h (Nat.lt_irrefl _)) _
      | false =>
        go_wp2_with fail
        go_roundw
        case measure => simp [intOf]; omega
        case rel => exact ⟨k + 1, by omega, by go_num, hd_snoc HA.out HX.out hq, HE.out.alloc _⟩
    · have hnone : hdFind s.toList = none := by
        have h1 := HA.out
        rw [List.take_of_length_le (by show 9 ≤ k; omega)] at h1
        exact h1
      have HN := hide hnone
      clear hnone hx
      go_wp2_with fail
      refine bodyPost_ret (v := .tuple #[.agg #[.string ⟨#[]⟩, .int .i64 0, .int .i64 0], .bool false]) (by simp [results, Tryz.results89, go_sem, z0, z1, z2]) rfl ⟨by rw [HN.out]; rfl, ?_⟩
      exact ((HE0.out.setCell (p := ⟨w.heap.size, 0, none⟩) (fun h => absurd h (Nat.lt_irrefl _)) _).setCell (p := ⟨w.heap.size, 1, none⟩) (fun h => absurd h (Nat.lt_irrefl _)) _).setCell (p := ⟨w.heap.size, 2, none⟩) (fun h => absurd h (Nat.lt_irrefl _)) _

end Go.Proofs.YtihpglkehkgioaaGreatDoor
