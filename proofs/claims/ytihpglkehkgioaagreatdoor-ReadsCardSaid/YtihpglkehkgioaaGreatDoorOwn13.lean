/- The program's reader: numbers. -/
import Derived.Test.YtihpglkehkgioaaGreatDoorOwn11
import Derived.Test.YtihpglkehkgioaaGreatDoorOwn12
import Derived.Test.YtihpglkehkgioaaGreatDoorOwn07
namespace Go.Proofs.YtihpglkehkgioaaGreatDoor
open Go.RowKit Ar

/-- A tree of the program: four cells, its parts in a row of such. -/
inductive PN (w : World) (D : Nat → Prop) : List Value → Nd → Prop
  | mk {k v : Int} {word : ByteArray} {ps : List Nd} {pv : Value} {kids : List (List Value)}
      (how : w.ownsRow 0 72 4 pv ps.length kids.flatten) (hl : ∀ cs ∈ kids, cs.length = 4) (hn : kids.length = ps.length) (hD : ∀ g, pv.ownBlock = some g → D g)
      (hk : ∀ (i : Nat) (cs : List Value) (p : Nd), kids[i]? = some cs → ps[i]? = some p → PN w D cs p) : PN w D [.int .i64 k, .string word, .int .i64 v, pv] (.mk k word v ps)

theorem PN.ext {S D : Nat → Prop} {w w' : World} {cs : List Value} {nd : Nd} (h : PN w D cs nd) (hx : Ext S w w') (hS : ∀ k, k < w.heap.size → D k → ¬ S k) : PN w' D cs nd := by
  induction h with
  | mk how hl hn hD _ ih => exact PN.mk (own_ext how hx (fun k hk => hS k (how.lt k hk).2 (hD k hk))) hl hn hD ih

theorem PN.mono {D D' : Nat → Prop} {w : World} {cs : List Value} {nd : Nd} (h : PN w D cs nd) (hl' : ∀ k, k < w.heap.size → D k → D' k) : PN w D' cs nd := by
  induction h with
  | mk how hl hn hD _ ih => exact PN.mk how hl hn (fun g hg => hl' g (how.lt g hg).2 (hD g hg)) ih

/-- A tree without parts. -/
theorem PN.leaf {w : World} {D : Nat → Prop} (k v : Int) (word : ByteArray) : PN w D [.int .i64 k, .string word, .int .i64 v, .slice none 0 0] (.mk k word v []) :=
  PN.mk (kids := []) (World.ownsRow_nil _ _ _ _) (fun _ h => absurd h (by simp)) rfl (fun g hg => absurd hg (by simp [Value.ownBlock])) (fun _ _ _ h => absurd h (by simp))

def zeroNode : Value := .agg #[.int .i64 0, .string ⟨#[]⟩, .int .i64 0, .slice none 0 0]

def PPost (w : World) (c : PCtx) (d pl er : Int) (r : Rs Nd) (en : Ending) (w' : World) : Prop :=
  Ext (· = c.rb) w w' ∧ (match r with
    | .ok nd ts' => ∃ (k : Int) (wd : ByteArray) (v : Int) (sa : Option Addr) (sn sc : Nat), en = .returned (.tuple #[.agg #[.int .i64 k, .string wd, .int .i64 v, .slice sa sn sc], .bool true]) ∧ PN w' (w.heap.size ≤ ·) [.int .i64 k, .string wd, .int .i64 v, .slice sa sn sc] nd ∧ PR w' c ts' d pl er
    | .no e p => en = .returned (.tuple #[.agg #[.int .i64 0, .string ⟨#[]⟩, .int .i64 0, .slice none 0 0], .bool false]) ∧ ∃ ts' d', PR w' c ts' d' p e)

theorem four_ext (w : World) (h : Nat) (a b x p : Value) : Ext (· = h) w ((((w.setCell ⟨h, 0, none⟩ a).setCell ⟨h, 1, none⟩ b).setCell ⟨h, 2, none⟩ x).setCell ⟨h, 3, none⟩ p) :=
  ((((Ext.refl (· = h) w).setCell (p := ⟨h, 0, none⟩) (fun _ => rfl) _).setCell (p := ⟨h, 1, none⟩) (fun _ => rfl) _).setCell (p := ⟨h, 2, none⟩) (fun _ => rfl) _).setCell (p := ⟨h, 3, none⟩) (fun _ => rfl) _

/-- The end of a method that has refused: the empty node lies in the result's block. -/
theorem post_no {w w0 w2 W : World} {c : PCtx} {d pl er d' e : Int} {p : Nat} {ts' : List Tk} (hx0 : Ext (fun _ => False) w w0) (hx2 : Ext (· = c.rb) w0 w2) (hr : PR w2 c ts' d' p e) (hW : Ext (· = w.heap.size) w2 W) (hrb : c.rb < w.heap.size) (htb : c.tb < w.heap.size) (hsb : c.sb < w.heap.size) (hnv : ∀ g, c.nv.ownBlock = some g → g < w.heap.size) :
    PPost w c d pl er (.no e p) (.returned (.tuple #[.agg #[.int .i64 0, .string ⟨#[]⟩, .int .i64 0, .slice none 0 0], .bool false])) W := by
  refine ⟨((hx0.mono (fun _ _ f => f.elim)).trans hx2).trans' hW (fun i hi e => by have h1 : i = w.heap.size := e; omega), rfl, ts', d', ?_⟩
  exact hr.ext hW (by show ¬ c.rb = w.heap.size; omega) (by show ¬ c.tb = w.heap.size; omega) (by show ¬ c.sb = w.heap.size; omega) (fun g hg e => by have h1 : g = w.heap.size := e; have := hnv g hg; omega) (by show ¬ 0 = w.heap.size; omega)

theorem post_ok {w w0 w2 W : World} {c : PCtx} {d pl er : Int} {nd : Nd} {ts' : List Tk} {k v : Int} {wd : ByteArray} {sa : Option Addr} {sn sc : Nat} (hx0 : Ext (fun _ => False) w w0) (hx2 : Ext (· = c.rb) w0 w2) (hr : PR w2 c ts' d pl er) (hn : PN w2 (fun k => w.heap.size < k) [.int .i64 k, .string wd, .int .i64 v, .slice sa sn sc] nd) (hW : Ext (· = w.heap.size) w2 W) (hrb : c.rb < w.heap.size) (htb : c.tb < w.heap.size) (hsb : c.sb < w.heap.size) (hnv : ∀ g, c.nv.ownBlock = some g → g < w.heap.size) :
    PPost w c d pl er (.ok nd ts') (.returned (.tuple #[.agg #[.int .i64 k, .string wd, .int .i64 v, .slice sa sn sc], .bool true])) W := by
  refine ⟨((hx0.mono (fun _ _ f => f.elim)).trans hx2).trans' hW (fun i hi e => by have h1 : i = w.heap.size := e; omega), k, wd, v, sa, sn, sc, rfl, ?_, ?_⟩
  · exact (hn.ext hW (fun k _ hk e => by have h1 : k = w.heap.size := e; omega)).mono (fun k _ hk => by show w.heap.size ≤ k; omega)
  · exact hr.ext hW (by show ¬ c.rb = w.heap.size; omega) (by show ¬ c.tb = w.heap.size; omega) (by show ¬ c.sb = w.heap.size; omega) (fun g hg e => by have h1 : g = w.heap.size := e; have := hnv g hg; omega) (by show ¬ 0 = w.heap.size; omega)

theorem PR.nvs {w : World} {c : PCtx} {ts : List Tk} {d pl er : Int} (h : PR w c ts d pl er) : ∀ g, c.nv.ownBlock = some g → g < w.heap.size := fun g hg => (h.own.lt g hg).2

set_option maxRecDepth 100000 in
set_option maxHeartbeats 400000 in
theorem p_number_no {w : World} {c : PCtx} {t : Tk} {ts : List Tk} {d pl er : Int} (k : Int) (h : PR w c (t :: ts) d pl er) (hv : numOf t.txt.toList = none) :
    Calls Tryz.prog 124 #[.pointer (some ⟨c.rb, 0, none⟩), .int .i64 k] w (PPost w c d pl er (.no 2 t.pos)) := by
  have F2 := fld2
  have hrb := h.rbs
  have hrn : ¬ w.heap.size = c.rb := by omega
  have htb := h.tbs
  have hsb := h.sbs
  have HNV := hide h.nvs
  have HX0 : Hid (Ext (fun _ => False) w (w.alloc (.cells #[.int .i64 0, .string ⟨#[]⟩, .int .i64 0, .slice none 0 0] 72))) := (Ext.refl _ w).alloc _
  have H0 := hide (h.new HX0.out)
  have hsm : t.txt.size ≤ maxLen := by have := h.sm; unfold maxLen; omega
  have HN := gReadNumber t.txt
  rw [hv] at HN
  have HN' := hide HN
  clear h hv HN
  go_enter Tryz.func124, Tryz.ntmps124
  go_wp2_with first
    | (go_at_call 57; refine (p_next H0.out).mono ?_; rintro en w1 ⟨rfl, hx1⟩; have HX1 := hide hx1; clear hx1)
    | (go_at_call 130; refine (HN'.out _ hsm).mono ?_; rintro en w' ⟨rfl, rfl⟩)
    | (go_at_call 60; refine (p_refuse _ (H0.out.new HX1.out)).mono ?_; rintro en w2 ⟨rfl, hx2, hr2⟩
       have HX2 : Hid (Ext (· = c.rb) (w.alloc (.cells #[.int .i64 0, .string ⟨#[]⟩, .int .i64 0, .slice none 0 0] 72)) w2) := (HX1.out.mono (fun _ _ f => f.elim)).trans hx2
       have kb : w2.heap[w.heap.size]? = some (.cells #[.int .i64 0, .string ⟨#[]⟩, .int .i64 0, .slice none 0 0] 72) := (HX2.out.block _ (block_lt (heap_alloc_new w _)) hrn).trans (heap_alloc_new w _)
       have z0 := cell_of_block kb 0
       have z1 := cell_of_block kb 1
       have z2 := cell_of_block kb 2
       have z3 := cell_of_block kb 3
       have y0 := frozen_of_block kb 0
       have y1 := frozen_of_block kb 1
       have y2 := frozen_of_block kb 2
       have y3 := frozen_of_block kb 3
       have HR2 := hide hr2
       clear hx2 hr2)
  refine bodyPost_ret (v := .tuple #[.agg #[.int .i64 0, .string ⟨#[]⟩, .int .i64 0, .slice none 0 0], .bool false]) (by simp [results, Tryz.results124, go_sem, z0, z1, z2, z3]) rfl ?_
  exact post_no HX0.out HX2.out HR2.out (four_ext _ _ _ _ _ _) hrb htb hsb HNV.out

set_option maxRecDepth 100000 in
set_option maxHeartbeats 400000 in
theorem p_number_great {w : World} {c : PCtx} {t : Tk} {ts : List Tk} {d pl er v : Int} (k : Int) (h : PR w c (t :: ts) d pl er) (hv : numOf t.txt.toList = some v) (hg : v < -1000 ∨ 1000 < v) :
    Calls Tryz.prog 124 #[.pointer (some ⟨c.rb, 0, none⟩), .int .i64 k] w (PPost w c d pl er (.no 5 t.pos)) := by
  have F0 := fld0
  have F2 := fld2
  have hrb := h.rbs
  have hrn : ¬ w.heap.size = c.rb := by omega
  have htb := h.tbs
  have hsb := h.sbs
  have HNV := hide h.nvs
  have HX0 : Hid (Ext (fun _ => False) w (w.alloc (.cells #[.int .i64 0, .string ⟨#[]⟩, .int .i64 0, .slice none 0 0] 72))) := (Ext.refl _ w).alloc _
  have H0 := hide (h.new HX0.out)
  have hsm : t.txt.size ≤ maxLen := by have := h.sm; unfold maxLen; omega
  have HN := gReadNumber t.txt
  rw [hv] at HN
  have HN' := hide HN
  have hw := gWithinInt v (-1000) 1000
  have hwf : decide (-1000 ≤ v ∧ v ≤ 1000) = false := by simp; omega
  rw [hwf] at hw
  have HW := hide hw
  clear h hv HN hw hwf hg F0
  go_enter Tryz.func124, Tryz.ntmps124
  go_wp2_with first
    | (go_at_call 57; refine (p_next H0.out).mono ?_; rintro en w1 ⟨rfl, hx1⟩; have HX1 := hide hx1; clear hx1)
    | (go_at_call 130; refine (HN'.out _ hsm).mono ?_; rintro en w' ⟨rfl, rfl⟩)
    | (go_at_call 66; refine (HW.out _).mono ?_; rintro en w' ⟨rfl, rfl⟩)
    | (go_at_call 60; refine (p_refuse _ (H0.out.new HX1.out)).mono ?_; rintro en w2 ⟨rfl, hx2, hr2⟩
       have HX2 : Hid (Ext (· = c.rb) (w.alloc (.cells #[.int .i64 0, .string ⟨#[]⟩, .int .i64 0, .slice none 0 0] 72)) w2) := (HX1.out.mono (fun _ _ f => f.elim)).trans hx2
       have kb : w2.heap[w.heap.size]? = some (.cells #[.int .i64 0, .string ⟨#[]⟩, .int .i64 0, .slice none 0 0] 72) := (HX2.out.block _ (block_lt (heap_alloc_new w _)) hrn).trans (heap_alloc_new w _)
       have z0 := cell_of_block kb 0
       have z1 := cell_of_block kb 1
       have z2 := cell_of_block kb 2
       have z3 := cell_of_block kb 3
       have y0 := frozen_of_block kb 0
       have y1 := frozen_of_block kb 1
       have y2 := frozen_of_block kb 2
       have y3 := frozen_of_block kb 3
       clear kb
       have HR2 := hide hr2
       clear hx2 hr2)
  refine bodyPost_ret (v := .tuple #[.agg #[.int .i64 0, .string ⟨#[]⟩, .int .i64 0, .slice none 0 0], .bool false]) (by simp [results, Tryz.results124, go_sem, z0, z1, z2, z3]) rfl ?_
  exact post_no HX0.out HX2.out HR2.out (four_ext _ _ _ _ _ _) hrb htb hsb HNV.out

set_option maxRecDepth 100000 in
set_option maxHeartbeats 400000 in
theorem p_number_ok {w : World} {c : PCtx} {t : Tk} {ts : List Tk} {d pl er v : Int} (k : Int) (h : PR w c (t :: ts) d pl er) (hv : numOf t.txt.toList = some v) (hg1 : -1000 ≤ v) (hg2 : v ≤ 1000) :
    Calls Tryz.prog 124 #[.pointer (some ⟨c.rb, 0, none⟩), .int .i64 k] w (PPost w c d pl er (.ok (.mk k ByteArray.empty v []) ts)) := by
  have F0 := fld0
  have F2 := fld2
  have hrb := h.rbs
  have hrn : ¬ w.heap.size = c.rb := by omega
  have htb := h.tbs
  have hsb := h.sbs
  have HNV := hide h.nvs
  have HX0 : Hid (Ext (fun _ => False) w (w.alloc (.cells #[.int .i64 0, .string ⟨#[]⟩, .int .i64 0, .slice none 0 0] 72))) := (Ext.refl _ w).alloc _
  have H0 := hide (h.new HX0.out)
  have hsm : t.txt.size ≤ maxLen := by have := h.sm; unfold maxLen; omega
  have HNE : Hid (t.txt.toList ≠ []) := by
    have := (num_word hv).2.2
    intro e; rw [e] at this; exact absurd this (by decide)
  have HN := gReadNumber t.txt
  rw [hv] at HN
  have HN' := hide HN
  have hw := gWithinInt v (-1000) 1000
  have hwf : decide (-1000 ≤ v ∧ v ≤ 1000) = true := by simp; omega
  rw [hwf] at hw
  have HW := hide hw
  clear h hv HN hw hwf F0
  go_enter Tryz.func124, Tryz.ntmps124
  go_wp2_with first
    | (go_at_call 57; refine (p_next H0.out).mono ?_; rintro en w1 ⟨rfl, hx1⟩; have HX1 := hide hx1; clear hx1)
    | (go_at_call 130; refine (HN'.out _ hsm).mono ?_; rintro en w' ⟨rfl, rfl⟩)
    | (go_at_call 66; refine (HW.out _).mono ?_; rintro en w' ⟨rfl, rfl⟩)
    | (go_at_call 59; refine (p_pass (H0.out.new HX1.out) HNE.out).mono ?_; rintro en w2 ⟨rfl, hx2, hr2⟩
       have HX2 : Hid (Ext (· = c.rb) (w.alloc (.cells #[.int .i64 0, .string ⟨#[]⟩, .int .i64 0, .slice none 0 0] 72)) w2) := (HX1.out.mono (fun _ _ f => f.elim)).trans hx2
       have kb : w2.heap[w.heap.size]? = some (.cells #[.int .i64 0, .string ⟨#[]⟩, .int .i64 0, .slice none 0 0] 72) := (HX2.out.block _ (block_lt (heap_alloc_new w _)) hrn).trans (heap_alloc_new w _)
       have z0 := cell_of_block kb 0
       have z1 := cell_of_block kb 1
       have z2 := cell_of_block kb 2
       have z3 := cell_of_block kb 3
       have y0 := frozen_of_block kb 0
       have y1 := frozen_of_block kb 1
       have y2 := frozen_of_block kb 2
       have y3 := frozen_of_block kb 3
       clear kb
       have HR2 := hide hr2
       clear hx2 hr2)
  refine bodyPost_ret (v := .tuple #[.agg #[.int .i64 k, .string ⟨#[]⟩, .int .i64 v, .slice none 0 0], .bool true]) (by simp [results, Tryz.results124, go_sem, z0, z1, z2, z3]) rfl ?_
  exact post_ok HX0.out HX2.out HR2.out (PN.leaf k v ByteArray.empty) (four_ext _ _ _ _ _ _) hrb htb hsb HNV.out

/-- A number must come. -/
theorem p_number {w : World} {c : PCtx} {t : Tk} {ts : List Tk} {d pl er : Int} (k : Int) (h : PR w c (t :: ts) d pl er) :
    Calls Tryz.prog 124 #[.pointer (some ⟨c.rb, 0, none⟩), .int .i64 k] w (PPost w c d pl er (rdNum k (t :: ts))) := by
  cases hv : numOf t.txt.toList with
  | none =>
    have e : rdNum k (t :: ts) = .no 2 t.pos := by simp only [rdNum, hv]
    rw [e]; exact p_number_no k h hv
  | some v =>
    by_cases hg : v < -1000 ∨ 1000 < v
    · have e : rdNum k (t :: ts) = .no 5 t.pos := by simp only [rdNum, hv, if_pos hg]
      rw [e]; exact p_number_great k h hv hg
    · have e : rdNum k (t :: ts) = .ok (.mk k ByteArray.empty v []) ts := by simp only [rdNum, hv, if_neg hg]
      rw [e]; exact p_number_ok k h hv (by omega) (by omega)

set_option maxRecDepth 100000 in
set_option maxHeartbeats 400000 in
theorem p_bound {w : World} {c : PCtx} {t : Tk} {ts : List Tk} {d pl er : Int} (h : PR w c (t :: ts) d pl er) :
    Calls Tryz.prog 114 #[.pointer (some ⟨c.rb, 0, none⟩)] w (PPost w c d pl er (rdNum 5 (t :: ts))) := by
  have F0 := fld0
  have F2 := fld2
  have hrb := h.rbs
  have hrn : ¬ w.heap.size = c.rb := by omega
  have htb := h.tbs
  have hsb := h.sbs
  have HNV := hide h.nvs
  have HX0 : Hid (Ext (fun _ => False) w (w.alloc (.cells #[.int .i64 0, .string ⟨#[]⟩, .int .i64 0, .slice none 0 0] 72))) := (Ext.refl _ w).alloc _
  have H0 := hide (h.new HX0.out)
  have HP := hide (p_number 5 H0.out)
  clear h F0 F2
  cases hr : rdNum 5 (t :: ts) with
  | no e p =>
    rw [hr] at HP
    go_enter Tryz.func114, Tryz.ntmps114
    go_wp2_with fail
    refine HP.out.mono ?_
    rintro en w2 ⟨hx2, rfl, ts', d', hr2⟩
    have HX2 : Hid (Ext (· = c.rb) (w.alloc (.cells #[.int .i64 0, .string ⟨#[]⟩, .int .i64 0, .slice none 0 0] 72)) w2) := hx2
    have kb : w2.heap[w.heap.size]? = some (.cells #[.int .i64 0, .string ⟨#[]⟩, .int .i64 0, .slice none 0 0] 72) := (HX2.out.block _ (block_lt (heap_alloc_new w _)) hrn).trans (heap_alloc_new w _)
    have z0 := cell_of_block kb 0
    have z1 := cell_of_block kb 1
    have z2 := cell_of_block kb 2
    have z3 := cell_of_block kb 3
    have y0 := frozen_of_block kb 0
    have y1 := frozen_of_block kb 1
    have y2 := frozen_of_block kb 2
    have y3 := frozen_of_block kb 3
    clear kb
    clear hx2
    go_wp2_with fail
    refine bodyPost_ret (v := .tuple #[.agg #[.int .i64 0, .string ⟨#[]⟩, .int .i64 0, .slice none 0 0], .bool false]) (by simp [results, Tryz.results114, go_sem, z0, z1, z2, z3]) rfl ?_
    exact post_no HX0.out HX2.out hr2 (four_ext _ _ _ _ _ _) hrb htb hsb HNV.out
  | ok nd ts' =>
    rw [hr] at HP
    go_enter Tryz.func114, Tryz.ntmps114
    go_wp2_with fail
    refine HP.out.mono ?_
    rintro en w2 ⟨hx2, k, wd, v, sa, sn, sc, rfl, hn, hr2⟩
    have HX2 : Hid (Ext (· = c.rb) (w.alloc (.cells #[.int .i64 0, .string ⟨#[]⟩, .int .i64 0, .slice none 0 0] 72)) w2) := hx2
    have kb : w2.heap[w.heap.size]? = some (.cells #[.int .i64 0, .string ⟨#[]⟩, .int .i64 0, .slice none 0 0] 72) := (HX2.out.block _ (block_lt (heap_alloc_new w _)) hrn).trans (heap_alloc_new w _)
    have z0 := cell_of_block kb 0
    have z1 := cell_of_block kb 1
    have z2 := cell_of_block kb 2
    have z3 := cell_of_block kb 3
    have y0 := frozen_of_block kb 0
    have y1 := frozen_of_block kb 1
    have y2 := frozen_of_block kb 2
    have y3 := frozen_of_block kb 3
    clear kb
    clear hx2
    go_wp2_with fail
    refine bodyPost_ret (v := .tuple #[.agg #[.int .i64 k, .string wd, .int .i64 v, .slice sa sn sc], .bool true]) (by simp [results, Tryz.results114, go_sem, z0, z1, z2, z3]) rfl ?_
    exact post_ok HX0.out HX2.out hr2 (hn.mono (fun k _ hk => by have h1 : (w.alloc _).heap.size ≤ k := hk; simp at h1; omega)) (four_ext _ _ _ _ _ _) hrb htb hsb HNV.out

end Go.Proofs.YtihpglkehkgioaaGreatDoor
