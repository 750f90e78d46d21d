/- The library's Repeat of a list of one function; The program's reader: an argument, a term in brackets. -/
import Derived.Test.YtihpglkehkgioaaGreatDoorOwn12
import Derived.Laws.CopyRow
import Derived.Laws.CopyOwn
import Derived.Deep.RegionLaw
import Derived.Deep.LoopGhost
import Derived.Test.YtihpglkehkgioaaGreatDoorOwn13
import Derived.Test.YtihpglkehkgioaaGreatDoorOwn08
/- The library's Repeat of a list of one function. -/
namespace Go.Proofs.YtihpglkehkgioaaGreatDoor
open Go.RowKit Ar

def frow (F : Value) (a k : Nat) : List Value := List.replicate k F ++ List.replicate (a - k) .nilFunc

theorem mk1 (w : World) : (Instr.makeSlice 220 (.int .i64 1) (.int .i64 1)).run Tryz.prog w = .ok (.slice (some ⟨w.heap.size, 0, none⟩) 1 1) (w.alloc (.cells #[.nilFunc] 105)) := by kernel_rfl
theorem mk2 (w : World) : (Instr.makeSlice 220 (.int .i64 2) (.int .i64 2)).run Tryz.prog w = .ok (.slice (some ⟨w.heap.size, 0, none⟩) 2 2) (w.alloc (.cells #[.nilFunc, .nilFunc] 105)) := by kernel_rfl
theorem mk3 (w : World) : (Instr.makeSlice 220 (.int .i64 3) (.int .i64 3)).run Tryz.prog w = .ok (.slice (some ⟨w.heap.size, 0, none⟩) 3 3) (w.alloc (.cells #[.nilFunc, .nilFunc, .nilFunc] 105)) := by kernel_rfl

theorem mkRow (a : Nat) (h1 : 1 ≤ a) (h3 : a ≤ 3) (F : Value) (w : World) : (Instr.makeSlice 220 (.int .i64 (a : Int)) (.int .i64 (a : Int))).run Tryz.prog w = .ok (.slice (some ⟨w.heap.size, 0, none⟩) a a) (w.alloc (.cells (frow F a 0).toArray 105)) := by
  have : a = 1 ∨ a = 2 ∨ a = 3 := by omega
  rcases this with rfl | rfl | rfl
  · exact mk1 w
  · exact mk2 w
  · exact mk3 w

set_option maxHeartbeats 400000 in
theorem mulLit (a : Nat) (h1 : 1 ≤ a) (h3 : a ≤ 3) (w : World) : Calls Tryz.prog 135 #[.int .u64 1, .int .u64 (a : Int)] w fun e w' => e = .returned (.tuple #[.int .u64 0, .int .u64 (a : Int)]) ∧ w = w' := by
  have : a = 1 ∨ a = 2 ∨ a = 3 := by omega
  rcases this with rfl | rfl | rfl
  all_goals
    go_enter Tryz.func135, Tryz.ntmps135
    go_wp2
    go_ret2
    exact ⟨by kernel_rfl, rfl⟩

theorem splice_first (F : Value) (a : Nat) (h1 : 1 ≤ a) (h3 : a ≤ 3) : splice (frow F a 0) 0 [F] = frow F a 1 := by
  have : a = 1 ∨ a = 2 ∨ a = 3 := by omega
  rcases this with rfl | rfl | rfl <;> rfl

theorem splice_next (F : Value) (a k : Nat) (h1 : 1 ≤ k) (hk : k < a) (h3 : a ≤ 3) : splice (frow F a k) k (List.replicate (Nat.min k (a - k)) F) = frow F a (k + Nat.min k (a - k)) := by
  have : (a = 2 ∧ k = 1) ∨ (a = 3 ∧ k = 1) ∨ (a = 3 ∧ k = 2) := by omega
  rcases this with ⟨rfl, rfl⟩ | ⟨rfl, rfl⟩ | ⟨rfl, rfl⟩ <;> rfl

theorem frow_src {w : World} {g a k m : Nat} {F : Value} {t : TypeId} (h : w.heap[g]? = some (.cells (frow F a k).toArray t)) (hm : m ≤ k) : ∀ j v, (List.replicate m F)[j]? = some v → w.drew.cell? ((⟨g, 0, none⟩ : Addr).add j) = some v := by
  intro j v hj
  obtain ⟨hjl, hv⟩ := List.getElem?_eq_some_iff.1 hj
  simp at hjl
  simp at hv
  subst hv
  have e : w.drew.cell? ((⟨g, 0, none⟩ : Addr).add j) = (frow F a k).toArray[j]? := by
    have h2 := cell_of_block h j
    have h3 : (⟨g, 0, none⟩ : Addr).add j = ⟨g, j, none⟩ := by unfold Addr.add; split <;> simp_all
    rw [h3]
    exact h2
  rw [e]
  have : j < k := by omega
  simp [frow, List.getElem?_append_left, this]

theorem info93 : (Tryz.prog.info? 105).map (·.size) = some 1 := by kernel_rfl

set_option maxRecDepth 100000 in
set_option maxHeartbeats 400000 in
theorem p_repeat {w : World} {g cap a : Nat} {F : Value} (h1 : 1 ≤ a) (h3 : a ≤ 3) (hF : F.oneCell' = true) (hc : w.cell? ⟨g, 0, none⟩ = some F) (hg : g < w.heap.size) :
    Calls Tryz.prog 128 #[.slice (some ⟨g, 0, none⟩) 1 cap, .int .i64 (a : Int)] w fun e w' => e = .returned (.slice (some ⟨w.heap.size, 0, none⟩) a a) ∧ Ext (fun _ => False) w w' ∧ w'.heap[w.heap.size]? = some (.cells (List.replicate a F).toArray 105) := by
  have hm := mkRow a h1 h3 F
  have HM := hide (mulLit a h1 h3)
  have ha0 : (0 : Int) ≤ (a : Int) := by omega
  have ha3 : (a : Int) ≤ 3 := by omega
  have ha1 : (1 : Int) ≤ (a : Int) := by omega
  go_enter Tryz.func128, Tryz.ntmps128
  go_wp2_with first
    | (go_at_call 135; refine (HM.out _).mono ?_; rintro e w' ⟨rfl, rfl⟩)
    | (refine wpList_copy_splice (by rfl) _ _ 220 220 (by rfl) 105 Tryz.underlying220 info93 (some ⟨w.heap.size, 0, none⟩) (some ⟨g, 0, none⟩) a a 1 cap (by rfl) (by rfl) w.heap.size 0 (frow F a 0) 105 (heap_alloc_new w _) [F] ?c1 ?c2 ?c3 ?c4 w.heap.size w ?c5 (Nat.le_refl _) ?_)
  case c1 => show 1 = Nat.min 1 a; simp only [Nat.min_def]; split <;> omega
  case c2 =>
    intro q v hq
    match q, hq with
    | 0, hq => simp at hq; subst hq; exact hc
  case c3 => simp [frow]; omega
  case c4 => intro v hv; simp at hv; subst hv; exact hF
  case c5 => exact (Below.refl _ _).alloc (Nat.le_refl _) _
  intro w1 hg1 hb1
  have HG1 : Hid (w1.heap[w.heap.size]? = some (.cells (frow F a 1).toArray 105)) := by
    have := hg1.out; rw [splice_first F a h1 h3] at this; exact this
  have HB1 := hide hb1
  clear hg1 hb1 hm HM
  go_wp2_with fail
  go_loopg [8] 3 (fun gk i wr => ∃ k : Nat, gk + k = 4 ∧ 1 ≤ k ∧ k ≤ a ∧ i = .int .i64 k ∧ wr.heap[w.heap.size]? = some (.cells (frow F a k).toArray 105) ∧ Below w.heap.size w wr)
  case atStart => exact ⟨1, rfl, by omega, by omega, rfl, HG1.out, HB1.out⟩
  case round =>
    obtain ⟨k, hgk, hk1, hka, rfl, hG, hB⟩ := hrel
    have HG := hide hG
    have HB := hide hB
    clear hG hB
    by_cases hlt : (k : Int) < (a : Int)
    · have hkn : ¬ a = k := by omega
      have HF := hide hF
      have HSRC : Hid (∀ m, m ≤ k → ∀ j v, (List.replicate m F)[j]? = some v → wr.drew.cell? ((⟨w.heap.size, 0, none⟩ : Addr).add j) = some v) := fun m hm => frow_src HG.out hm
      have hcs : (a = 2 ∧ k = 1) ∨ (a = 3 ∧ k = 1) ∨ (a = 3 ∧ k = 2) := by omega
      clear hF
      rcases hcs with ⟨rfl, rfl⟩ | ⟨rfl, rfl⟩ | ⟨rfl, rfl⟩
      · go_wp2_with fail
        go_region_law ((refine step_copy_splice (by rfl) _ _ 220 220 (by rfl) 105 Tryz.underlying220 info93 (some ⟨w.heap.size, 1, none⟩) (some ⟨w.heap.size, 0, none⟩) 1 1 1 2 (by simp [Act.eval, Act.put]) (by simp [Act.eval, Act.put]) w.heap.size 1 (frow F 2 1) 105 HG.out (List.replicate 1 F) (by rfl) (fun _ => ⟨rfl, ⟨w.heap.size, 0, none⟩, rfl, HSRC.out 1 (by omega)⟩) (by simp [frow]) (fun v hv => by rw [(List.mem_replicate.1 hv).2]; exact HF.out) w.heap.size w HB.out.drew (Nat.le_refl _) ?_; intro w4 hg4 hb4))
        go_wp2_with fail
        go_roundg (gk - 1)
        case measure => omega
        case rel => exact ⟨2, by omega, by omega, by omega, rfl, hg4.out, hb4⟩
      · go_wp2_with fail
        go_region_law ((refine step_copy_splice (by rfl) _ _ 220 220 (by rfl) 105 Tryz.underlying220 info93 (some ⟨w.heap.size, 1, none⟩) (some ⟨w.heap.size, 0, none⟩) 2 2 1 3 (by simp [Act.eval, Act.put]) (by simp [Act.eval, Act.put]) w.heap.size 1 (frow F 3 1) 105 HG.out (List.replicate 1 F) (by rfl) (fun _ => ⟨rfl, ⟨w.heap.size, 0, none⟩, rfl, HSRC.out 1 (by omega)⟩) (by simp [frow]) (fun v hv => by rw [(List.mem_replicate.1 hv).2]; exact HF.out) w.heap.size w HB.out.drew (Nat.le_refl _) ?_; intro w4 hg4 hb4))
        go_wp2_with fail
        go_roundg (gk - 1)
        case measure => omega
        case rel => exact ⟨2, by omega, by omega, by omega, rfl, hg4.out, hb4⟩
      · go_wp2_with fail
        go_region_law ((refine step_copy_splice (by rfl) _ _ 220 220 (by rfl) 105 Tryz.underlying220 info93 (some ⟨w.heap.size, 2, none⟩) (some ⟨w.heap.size, 0, none⟩) 1 1 2 3 (by simp [Act.eval, Act.put]) (by simp [Act.eval, Act.put]) w.heap.size 2 (frow F 3 2) 105 HG.out (List.replicate 1 F) (by rfl) (fun _ => ⟨rfl, ⟨w.heap.size, 0, none⟩, rfl, HSRC.out 1 (by omega)⟩) (by simp [frow]) (fun v hv => by rw [(List.mem_replicate.1 hv).2]; exact HF.out) w.heap.size w HB.out.drew (Nat.le_refl _) ?_; intro w4 hg4 hb4))
        go_wp2_with fail
        go_roundg (gk - 1)
        case measure => omega
        case rel => exact ⟨3, by omega, by omega, by omega, rfl, hg4.out, hb4⟩
    · go_wp2_with fail
      go_ret
      have hka2 : k = a := by omega
      subst hka2
      have e : frow F k k = List.replicate k F := by simp [frow]
      refine ⟨rfl, ⟨HB.out.os, HB.out.tape, HB.out.output, HB.out.size, fun q hq _ => HB.out.block q hq⟩, ?_⟩
      have := HG.out
      rw [e] at this
      exact this

end Go.Proofs.YtihpglkehkgioaaGreatDoor

/- The program's reader: an argument, a term in brackets. -/
namespace Go.Proofs.YtihpglkehkgioaaGreatDoor
open Go.RowKit Ar

set_option maxRecDepth 100000 in
set_option maxHeartbeats 400000 in
theorem p_argument {w : World} {c : PCtx} {t : Tk} {ts : List Tk} {d pl er : Int} (F : List Tk → Rs Nd) (h : PR w c (t :: ts) d pl er)
    (hf : ∀ (w : World), PR w c (t :: ts) d pl er → Calls Tryz.prog 113 #[.pointer (some ⟨c.rb, 0, none⟩)] w (PPost w c d pl er (F (t :: ts)))) :
    Calls Tryz.prog 129 #[.pointer (some ⟨c.rb, 0, none⟩)] w (PPost w c d pl er (rdArg F (t :: ts))) := by
  have F0 := fld0
  have F2 := fld2
  have hrb := h.rbs
  have hrn : ¬ w.heap.size = c.rb := by omega
  have htb := h.tbs
  have hsb := h.sbs
  have HNV := hide h.nvs
  have HX0 : Hid (Ext (fun _ => False) w (w.alloc (.cells #[.int .i64 0, .string ⟨#[]⟩, .int .i64 0, .slice none 0 0] 72))) := (Ext.refl _ w).alloc _
  have H0 := hide (h.new HX0.out)
  have HF := hide hf
  clear h hf F2
  by_cases hq : t.txt.toList = [41]
  · have hk : (kOf t.txt.toList == 2) = true := by rw [kOf_close hq]; rfl
    rw [rdArg, if_pos hq]
    clear hq
    go_enter Tryz.func129, Tryz.ntmps129
    go_wp2_with first
      | (go_at_call 57; refine (p_next H0.out).mono ?_; rintro en w1 ⟨rfl, hx1⟩; have HX1 := hide hx1; clear hx1)
      | (go_at_call 60; refine (p_refuse _ (H0.out.new HX1.out)).mono ?_; rintro en w2 ⟨rfl, hx2, hr2⟩
         have HX2 : Hid (Ext (· = c.rb) (w.alloc (.cells #[.int .i64 0, .string ⟨#[]⟩, .int .i64 0, .slice none 0 0] 72)) w2) := (HX1.out.mono (fun _ _ f => f.elim)).trans hx2
         have kb : w2.heap[w.heap.size]? = some (.cells #[.int .i64 0, .string ⟨#[]⟩, .int .i64 0, .slice none 0 0] 72) := (HX2.out.block _ (block_lt (heap_alloc_new w _)) hrn).trans (heap_alloc_new w _)
         have z0 := cell_of_block kb 0
         have z1 := cell_of_block kb 1
         have z2 := cell_of_block kb 2
         have z3 := cell_of_block kb 3
         have y0 := frozen_of_block kb 0
         have y1 := frozen_of_block kb 1
         have y2 := frozen_of_block kb 2
         have y3 := frozen_of_block kb 3
         clear kb
         have HR2 := hide hr2
         clear hx2 hr2)
    refine bodyPost_ret (v := .tuple #[.agg #[.int .i64 0, .string ⟨#[]⟩, .int .i64 0, .slice none 0 0], .bool false]) (by simp [results, Tryz.results129, go_sem, z0, z1, z2, z3]) rfl ?_
    exact post_no HX0.out HX2.out HR2.out (four_ext _ _ _ _ _ _) hrb htb hsb HNV.out
  · have hk := kOf_ne2 hq
    rw [rdArg, if_neg hq]
    clear hq
    cases hr : F (t :: ts) with
    | no e p =>
      rw [hr] at HF
      go_enter Tryz.func129, Tryz.ntmps129
      go_wp2_with (go_at_call 57; refine (p_next H0.out).mono ?_; rintro en w1 ⟨rfl, hx1⟩; have HX1 := hide hx1; clear hx1)
      refine (HF.out _ (H0.out.new HX1.out)).mono ?_
      rintro en w2 ⟨hx2, rfl, ts', d', hr2⟩
      have HX2 : Hid (Ext (· = c.rb) (w.alloc (.cells #[.int .i64 0, .string ⟨#[]⟩, .int .i64 0, .slice none 0 0] 72)) w2) := (HX1.out.mono (fun _ _ f => f.elim)).trans hx2
      have kb : w2.heap[w.heap.size]? = some (.cells #[.int .i64 0, .string ⟨#[]⟩, .int .i64 0, .slice none 0 0] 72) := (HX2.out.block _ (block_lt (heap_alloc_new w _)) hrn).trans (heap_alloc_new w _)
      have z0 := cell_of_block kb 0
      have z1 := cell_of_block kb 1
      have z2 := cell_of_block kb 2
      have z3 := cell_of_block kb 3
      have y0 := frozen_of_block kb 0
      have y1 := frozen_of_block kb 1
      have y2 := frozen_of_block kb 2
      have y3 := frozen_of_block kb 3
      clear kb
      clear hx2
      go_wp2_with fail
      refine bodyPost_ret (v := .tuple #[.agg #[.int .i64 0, .string ⟨#[]⟩, .int .i64 0, .slice none 0 0], .bool false]) (by simp [results, Tryz.results129, go_sem, z0, z1, z2, z3]) rfl ?_
      exact post_no HX0.out HX2.out hr2 (four_ext _ _ _ _ _ _) hrb htb hsb HNV.out
    | ok nd ts' =>
      rw [hr] at HF
      go_enter Tryz.func129, Tryz.ntmps129
      go_wp2_with (go_at_call 57; refine (p_next H0.out).mono ?_; rintro en w1 ⟨rfl, hx1⟩; have HX1 := hide hx1; clear hx1)
      refine (HF.out _ (H0.out.new HX1.out)).mono ?_
      rintro en w2 ⟨hx2, k, wd, v, sa, sn, sc, rfl, hn, hr2⟩
      have HX2 : Hid (Ext (· = c.rb) (w.alloc (.cells #[.int .i64 0, .string ⟨#[]⟩, .int .i64 0, .slice none 0 0] 72)) w2) := (HX1.out.mono (fun _ _ f => f.elim)).trans hx2
      have kb : w2.heap[w.heap.size]? = some (.cells #[.int .i64 0, .string ⟨#[]⟩, .int .i64 0, .slice none 0 0] 72) := (HX2.out.block _ (block_lt (heap_alloc_new w _)) hrn).trans (heap_alloc_new w _)
      have z0 := cell_of_block kb 0
      have z1 := cell_of_block kb 1
      have z2 := cell_of_block kb 2
      have z3 := cell_of_block kb 3
      have y0 := frozen_of_block kb 0
      have y1 := frozen_of_block kb 1
      have y2 := frozen_of_block kb 2
      have y3 := frozen_of_block kb 3
      clear kb
      have hsz := HX1.out.size
      have HPN := hide (hn.mono (D' := fun k => w.heap.size < k) (fun k _ hk => by have h1 : w1.heap.size ≤ k := hk; simp at hsz; show w.heap.size < k; omega))
      clear hx2 hn hsz
      go_wp2_with fail
      refine bodyPost_ret (v := .tuple #[.agg #[.int .i64 k, .string wd, .int .i64 v, .slice sa sn sc], .bool true]) (by simp [results, Tryz.results129, go_sem, z0, z1, z2, z3]) rfl ?_
      exact post_ok HX0.out HX2.out hr2 HPN.out (four_ext _ _ _ _ _ _) hrb htb hsb HNV.out

theorem kids_row {w : World} {D : Nat → Prop} {k v : Int} {word : ByteArray} {pv : Value} {ps : List Nd} {kids : List (List Value)} (h : PRow w D pv ps kids) : PN w D [.int .i64 k, .string word, .int .i64 v, pv] (.mk k word v ps) :=
  PN.mk h.how h.hl h.hn h.hD (fun i cs p h1 h2 => (h.hk i cs p h1 h2).mono (fun _ _ hk => hk.1))

theorem PRow.ext {S D : Nat → Prop} {w w' : World} {pv : Value} {ps : List Nd} {kids : List (List Value)} (h : PRow w D pv ps kids) (hx : Ext S w w') (hS : ∀ k, k < w.heap.size → D k → ¬ S k) : PRow w' D pv ps kids :=
  ⟨own_ext h.how hx (fun k hk => hS k (h.how.lt k hk).2 (h.hD k hk)), h.hl, h.hn, h.hD, fun i cs p h1 h2 => (h.hk i cs p h1 h2).ext hx (fun k hk hD => hS k hk hD.1)⟩

theorem PRow.mono {D D' : Nat → Prop} {w : World} {pv : Value} {ps : List Nd} {kids : List (List Value)} (h : PRow w D pv ps kids) (hl : ∀ k, k < w.heap.size → D k → D' k) : PRow w D' pv ps kids :=
  ⟨h.how, h.hl, h.hn, fun g hg => hl g (h.how.lt g hg).2 (h.hD g hg), fun i cs p h1 h2 => (h.hk i cs p h1 h2).mono (fun k hk hD => ⟨hl k hk hD.1, hD.2⟩)⟩

end Go.Proofs.YtihpglkehkgioaaGreatDoor
