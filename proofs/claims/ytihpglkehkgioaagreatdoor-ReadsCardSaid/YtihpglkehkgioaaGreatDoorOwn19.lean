/- The program's reader: a formula, whatever comes. -/
import Derived.Test.YtihpglkehkgioaaGreatDoorOwn18
namespace Go.Proofs.YtihpglkehkgioaaGreatDoor
open Go.RowKit Ar

set_option maxRecDepth 100000 in
set_option maxHeartbeats 400000 in
theorem p_form_br {w : World} {c : PCtx} {t : Tk} {ts : List Tk} {d pl er : Int} (r : Rs Nd) (h : PR w c (t :: ts) d pl er) (ho : (t.txt.toList == [40]) = true)
    (hf : ∀ (w : World), PR w c (t :: ts) d pl er → Calls Tryz.prog 58 #[.pointer (some ⟨c.rb, 0, none⟩)] w (PPost w c d pl er r)) :
    Calls Tryz.prog 38 #[.pointer (some ⟨c.rb, 0, none⟩)] w (PPost w c d pl er r) := by
  have F0 := fld0
  have F2 := fld2
  have hrb := h.rbs
  have hrn : ¬ w.heap.size = c.rb := by omega
  have htb := h.tbs
  have hsb := h.sbs
  have HNV := hide h.nvs
  have HX0 : Hid (Ext (fun _ => False) w (w.alloc (.cells #[.int .i64 0, .string ⟨#[]⟩, .int .i64 0, .slice none 0 0] 72))) := (Ext.refl _ w).alloc _
  have H0 := hide (h.new HX0.out)
  have HF := hide hf
  have hk := (kOf_open (l := t.txt.toList)).trans ho
  clear F2
  clear h hf ho
  cases r with
  | no e p =>
    go_enter Tryz.func38, Tryz.ntmps38
    go_wp2_with first
        | (go_at_call 57; refine (p_next H0.out).mono ?_; rintro en w1 ⟨rfl, hx1⟩; have HX1 := hide hx1; clear hx1)
    refine (HF.out _ (H0.out.new HX1.out)).mono ?_
    rintro en w5 ⟨hx5, rfl, ts', d', hr2⟩
    have HX2 : Hid (Ext (· = c.rb) (w.alloc (.cells #[.int .i64 0, .string ⟨#[]⟩, .int .i64 0, .slice none 0 0] 72)) w5) := (HX1.out.mono (fun _ _ f => f.elim)).trans hx5
    have kb : w5.heap[w.heap.size]? = some (.cells #[.int .i64 0, .string ⟨#[]⟩, .int .i64 0, .slice none 0 0] 72) := (HX2.out.block _ (block_lt (heap_alloc_new w _)) hrn).trans (heap_alloc_new w _)
    have z0 := cell_of_block kb 0
    have z1 := cell_of_block kb 1
    have z2 := cell_of_block kb 2
    have z3 := cell_of_block kb 3
    have y0 := frozen_of_block kb 0
    have y1 := frozen_of_block kb 1
    have y2 := frozen_of_block kb 2
    have y3 := frozen_of_block kb 3
    clear kb
    clear hx5
    go_wp2_with fail
    refine bodyPost_ret (v := .tuple #[.agg #[.int .i64 0, .string ⟨#[]⟩, .int .i64 0, .slice none 0 0], .bool false]) (by simp [results, Tryz.results38, go_sem, z0, z1, z2, z3]) rfl ?_
    exact post_no HX0.out HX2.out hr2 (four_ext _ _ _ _ _ _) hrb htb hsb HNV.out
  | ok nd ts' =>
    go_enter Tryz.func38, Tryz.ntmps38
    go_wp2_with first
        | (go_at_call 57; refine (p_next H0.out).mono ?_; rintro en w1 ⟨rfl, hx1⟩; have HX1 := hide hx1; clear hx1)
    refine (HF.out _ (H0.out.new HX1.out)).mono ?_
    rintro en w5 ⟨hx5, k, wd, v, sa, sn, sc, rfl, hn, hr2⟩
    have HX2 : Hid (Ext (· = c.rb) (w.alloc (.cells #[.int .i64 0, .string ⟨#[]⟩, .int .i64 0, .slice none 0 0] 72)) w5) := (HX1.out.mono (fun _ _ f => f.elim)).trans hx5
    have kb : w5.heap[w.heap.size]? = some (.cells #[.int .i64 0, .string ⟨#[]⟩, .int .i64 0, .slice none 0 0] 72) := (HX2.out.block _ (block_lt (heap_alloc_new w _)) hrn).trans (heap_alloc_new w _)
    have z0 := cell_of_block kb 0
    have z1 := cell_of_block kb 1
    have z2 := cell_of_block kb 2
    have z3 := cell_of_block kb 3
    have y0 := frozen_of_block kb 0
    have y1 := frozen_of_block kb 1
    have y2 := frozen_of_block kb 2
    have y3 := frozen_of_block kb 3
    clear kb
    have hsz := HX1.out.size
    have HPN := hide (hn.mono (D' := fun k => w.heap.size < k) (fun k _ hk => by have h1 : w1.heap.size ≤ k := hk; simp at hsz; show w.heap.size < k; omega))
    clear hx5 hn hsz
    go_wp2_with fail
    refine bodyPost_ret (v := .tuple #[.agg #[.int .i64 k, .string wd, .int .i64 v, .slice sa sn sc], .bool true]) (by simp [results, Tryz.results38, go_sem, z0, z1, z2, z3]) rfl ?_
    exact post_ok HX0.out HX2.out hr2 HPN.out (four_ext _ _ _ _ _ _) hrb htb hsb HNV.out

set_option maxRecDepth 100000 in
set_option maxHeartbeats 400000 in
theorem p_form_true {w : World} {c : PCtx} {t : Tk} {ts : List Tk} {d pl er : Int} (h : PR w c (t :: ts) d pl er) (ho : (t.txt.toList == [40]) = false) (hw : t.txt.toList = wTrue) :
    Calls Tryz.prog 38 #[.pointer (some ⟨c.rb, 0, none⟩)] w (PPost w c d pl er (.ok (.mk 0 t.txt 0 []) ts)) := by
  have F0 := fld0
  have F2 := fld2
  have hrb := h.rbs
  have hrn : ¬ w.heap.size = c.rb := by omega
  have htb := h.tbs
  have hsb := h.sbs
  have HNV := hide h.nvs
  have HX0 : Hid (Ext (fun _ => False) w (w.alloc (.cells #[.int .i64 0, .string ⟨#[]⟩, .int .i64 0, .slice none 0 0] 72))) := (Ext.refl _ w).alloc _
  have H0 := hide (h.new HX0.out)
  have hk := (kOf_open (l := t.txt.toList)).trans ho
  have HNE : Hid (t.txt.toList ≠ []) := by rw [hw]; exact (by decide : (wTrue : List UInt8) ≠ [])
  have e1 : (t.txt.toList == [116, 114, 117, 101]) = true := by rw [hw]; rfl
  have htx : t.txt = ⟨#[116, 114, 117, 101]⟩ := bytes_ext (hw.trans (by kernel_rfl))
  have HTX := hide htx
  clear h ho hw htx
  go_enter Tryz.func38, Tryz.ntmps38
  go_wp2_with first
     | (go_at_call 57; refine (p_next (H0.out)).mono ?_; rintro en w1 ⟨rfl, hx1⟩; have HX1 := hide hx1; clear hx1)
     | (go_at_call 57; refine (p_next (H0.out.new HX1.out)).mono ?_; rintro en w2 ⟨rfl, hx2⟩; have HX2a := hide hx2; clear hx2)
     | (go_at_call 59; refine (p_pass (H0.out.new (HX1.out.trans HX2a.out)) HNE.out).mono ?_; rintro en w4 ⟨rfl, hx4, hr4⟩
        have HX2 : Hid (Ext (· = c.rb) (w.alloc (.cells #[.int .i64 0, .string ⟨#[]⟩, .int .i64 0, .slice none 0 0] 72)) w4) := ((HX1.out.trans HX2a.out).mono (fun _ _ f => f.elim)).trans hx4
        have kb : w4.heap[w.heap.size]? = some (.cells #[.int .i64 0, .string ⟨#[]⟩, .int .i64 0, .slice none 0 0] 72) := (HX2.out.block _ (block_lt (heap_alloc_new w _)) hrn).trans (heap_alloc_new w _)
        have z0 := cell_of_block kb 0
        have z1 := cell_of_block kb 1
        have z2 := cell_of_block kb 2
        have z3 := cell_of_block kb 3
        have y0 := frozen_of_block kb 0
        have y1 := frozen_of_block kb 1
        have y2 := frozen_of_block kb 2
        have y3 := frozen_of_block kb 3
        clear kb
        have HR2 := hide hr4
        clear hx4 hr4)
  refine bodyPost_ret (v := .tuple #[.agg #[.int .i64 0, .string ⟨#[116, 114, 117, 101]⟩, .int .i64 0, .slice none 0 0], .bool true]) (by simp [results, Tryz.results38, go_sem, z0, z1, z2, z3]) rfl ?_
  rw [HTX.out]
  exact post_ok HX0.out HX2.out HR2.out (PN.leaf 0 0 _) (four_ext _ _ _ _ _ _) hrb htb hsb HNV.out

set_option maxRecDepth 100000 in
set_option maxHeartbeats 400000 in
theorem p_form_false {w : World} {c : PCtx} {t : Tk} {ts : List Tk} {d pl er : Int} (h : PR w c (t :: ts) d pl er) (ho : (t.txt.toList == [40]) = false) (hw : t.txt.toList = wFalse) :
    Calls Tryz.prog 38 #[.pointer (some ⟨c.rb, 0, none⟩)] w (PPost w c d pl er (.ok (.mk 0 t.txt 0 []) ts)) := by
  have F0 := fld0
  have F2 := fld2
  have hrb := h.rbs
  have hrn : ¬ w.heap.size = c.rb := by omega
  have htb := h.tbs
  have hsb := h.sbs
  have HNV := hide h.nvs
  have HX0 : Hid (Ext (fun _ => False) w (w.alloc (.cells #[.int .i64 0, .string ⟨#[]⟩, .int .i64 0, .slice none 0 0] 72))) := (Ext.refl _ w).alloc _
  have H0 := hide (h.new HX0.out)
  have hk := (kOf_open (l := t.txt.toList)).trans ho
  have HNE : Hid (t.txt.toList ≠ []) := by rw [hw]; exact (by decide : (wFalse : List UInt8) ≠ [])
  have e1 : (t.txt.toList == [116, 114, 117, 101]) = false := by rw [hw]; rfl
  have e2 : (t.txt.toList == [102, 97, 108, 115, 101]) = true := by rw [hw]; rfl
  have htx : t.txt = ⟨#[102, 97, 108, 115, 101]⟩ := bytes_ext (hw.trans (by kernel_rfl))
  have HTX := hide htx
  clear h ho hw htx
  go_enter Tryz.func38, Tryz.ntmps38
  go_wp2_with first
     | (go_at_call 57; refine (p_next (H0.out)).mono ?_; rintro en w1 ⟨rfl, hx1⟩; have HX1 := hide hx1; clear hx1)
     | (go_at_call 57; refine (p_next (H0.out.new HX1.out)).mono ?_; rintro en w2 ⟨rfl, hx2⟩; have HX2a := hide hx2; clear hx2)
     | (go_at_call 59; refine (p_pass (H0.out.new (HX1.out.trans HX2a.out)) HNE.out).mono ?_; rintro en w4 ⟨rfl, hx4, hr4⟩
        have HX2 : Hid (Ext (· = c.rb) (w.alloc (.cells #[.int .i64 0, .string ⟨#[]⟩, .int .i64 0, .slice none 0 0] 72)) w4) := ((HX1.out.trans HX2a.out).mono (fun _ _ f => f.elim)).trans hx4
        have kb : w4.heap[w.heap.size]? = some (.cells #[.int .i64 0, .string ⟨#[]⟩, .int .i64 0, .slice none 0 0] 72) := (HX2.out.block _ (block_lt (heap_alloc_new w _)) hrn).trans (heap_alloc_new w _)
        have z0 := cell_of_block kb 0
        have z1 := cell_of_block kb 1
        have z2 := cell_of_block kb 2
        have z3 := cell_of_block kb 3
        have y0 := frozen_of_block kb 0
        have y1 := frozen_of_block kb 1
        have y2 := frozen_of_block kb 2
        have y3 := frozen_of_block kb 3
        clear kb
        have HR2 := hide hr4
        clear hx4 hr4)
  refine bodyPost_ret (v := .tuple #[.agg #[.int .i64 0, .string ⟨#[102, 97, 108, 115, 101]⟩, .int .i64 0, .slice none 0 0], .bool true]) (by simp [results, Tryz.results38, go_sem, z0, z1, z2, z3]) rfl ?_
  rw [HTX.out]
  exact post_ok HX0.out HX2.out HR2.out (PN.leaf 0 0 _) (four_ext _ _ _ _ _ _) hrb htb hsb HNV.out

set_option maxRecDepth 100000 in
set_option maxHeartbeats 400000 in
theorem p_form_no {w : World} {c : PCtx} {t : Tk} {ts : List Tk} {d pl er : Int} (h : PR w c (t :: ts) d pl er) (ho : (t.txt.toList == [40]) = false) (hw1 : ¬ t.txt.toList = wTrue) (hw2 : ¬ t.txt.toList = wFalse) :
    Calls Tryz.prog 38 #[.pointer (some ⟨c.rb, 0, none⟩)] w (PPost w c d pl er (.no 2 t.pos)) := by
  have F0 := fld0
  have F2 := fld2
  have hrb := h.rbs
  have hrn : ¬ w.heap.size = c.rb := by omega
  have htb := h.tbs
  have hsb := h.sbs
  have HNV := hide h.nvs
  have HX0 : Hid (Ext (fun _ => False) w (w.alloc (.cells #[.int .i64 0, .string ⟨#[]⟩, .int .i64 0, .slice none 0 0] 72))) := (Ext.refl _ w).alloc _
  have H0 := hide (h.new HX0.out)
  have hk := (kOf_open (l := t.txt.toList)).trans ho
  have e1 : (t.txt.toList == [116, 114, 117, 101]) = false := beq_eq_false_iff_ne.2 hw1
  have e2 : (t.txt.toList == [102, 97, 108, 115, 101]) = false := beq_eq_false_iff_ne.2 hw2
  clear h ho hw1 hw2
  go_enter Tryz.func38, Tryz.ntmps38
  go_wp2_with first
     | (go_at_call 57; refine (p_next (H0.out)).mono ?_; rintro en w1 ⟨rfl, hx1⟩; have HX1 := hide hx1; clear hx1)
     | (go_at_call 57; refine (p_next (H0.out.new HX1.out)).mono ?_; rintro en w2 ⟨rfl, hx2⟩; have HX2a := hide hx2; clear hx2)
     | (go_at_call 60; refine (p_refuse _ (H0.out.new (HX1.out.trans HX2a.out))).mono ?_; rintro en w4 ⟨rfl, hx4, hr4⟩
        have HX2 : Hid (Ext (· = c.rb) (w.alloc (.cells #[.int .i64 0, .string ⟨#[]⟩, .int .i64 0, .slice none 0 0] 72)) w4) := ((HX1.out.trans HX2a.out).mono (fun _ _ f => f.elim)).trans hx4
        have kb : w4.heap[w.heap.size]? = some (.cells #[.int .i64 0, .string ⟨#[]⟩, .int .i64 0, .slice none 0 0] 72) := (HX2.out.block _ (block_lt (heap_alloc_new w _)) hrn).trans (heap_alloc_new w _)
        have z0 := cell_of_block kb 0
        have z1 := cell_of_block kb 1
        have z2 := cell_of_block kb 2
        have z3 := cell_of_block kb 3
        have y0 := frozen_of_block kb 0
        have y1 := frozen_of_block kb 1
        have y2 := frozen_of_block kb 2
        have y3 := frozen_of_block kb 3
        clear kb
        have HR2 := hide hr4
        clear hx4 hr4)
  refine bodyPost_ret (v := .tuple #[.agg #[.int .i64 0, .string ⟨#[]⟩, .int .i64 0, .slice none 0 0], .bool false]) (by simp [results, Tryz.results38, go_sem, z0, z1, z2, z3]) rfl ?_
  exact post_no HX0.out HX2.out HR2.out (four_ext _ _ _ _ _ _) hrb htb hsb HNV.out

theorem p_formula (c : PCtx) (pl er : Int) (n : Nat) : ∀ (w : World) (ts : List Tk) (d : Int), ts.length ≤ n → PR w c ts d pl er → Calls Tryz.prog 38 #[.pointer (some ⟨c.rb, 0, none⟩)] w (PPost w c d pl er (rdForm c.N n d ts)) := by
  induction n with
  | zero =>
    intro w ts d hn h
    obtain ⟨t, us, rfl⟩ := h.head
    simp at hn
  | succ n ih =>
    intro w ts d hn h
    obtain ⟨t, us, rfl⟩ := h.head
    cases ho : (t.txt.toList == [40]) with
    | true =>
      have ho' : t.txt.toList = [40] := beq_iff_eq.1 ho
      have hne : t.txt.toList ≠ [] := by rw [ho']; simp
      have h1 := h.wf.tail hne
      obtain ⟨u, us0, rfl⟩ : ∃ u us0, us = u :: us0 := by
        cases us with
        | nil => exact absurd rfl h1.ne
        | cons u us0 => exact ⟨u, us0, rfl⟩
      refine p_form_br _ h ho (fun W hW => ?_)
      by_cases hd : 30 ≤ d
      · have er' : rdForm c.N (n + 1) d (t :: u :: us0) = .no 6 t.pos := by rw [rdForm, if_pos ho', if_pos hd]
        rw [er']; exact p_br_deep hW hd
      · have hd' : d < 30 := by omega
        cases hh : hdFind u.txt.toList with
        | none =>
          have er' : rdForm c.N (n + 1) d (t :: u :: us0) = .no 2 u.pos := by
            rw [rdForm, if_pos ho', if_neg hd]
            simp only [hdFind_eq, hh, Option.map_none]
          rw [er']; exact p_br_no hW hd' hne hh
        | some x =>
          have er' : rdForm c.N (n + 1) d (t :: u :: us0) = rdCloses 2 x.2.1 u.txt (rdParts x.2.2 n (rdForm c.N n (d + 1)) (rdTerm c.N n (d + 1)) (rdNum 5) us0) := by
            rw [rdForm, if_pos ho', if_neg hd]
            simp only [hdFind_eq, hh, Option.map_some]
          have hune : u.txt.toList ≠ [] := by
            intro e
            rw [e] at hh
            rw [show hdFind [] = none from by kernel_rfl] at hh
            cases hh
          rw [er']
          exact p_br n x hW hd' hne hh hune (by simp at hn; omega) _ _ (form_fits c.N n (d + 1)) (term_fits c.N n (d + 1)) (fun W' ts' hl hP => ih W' ts' (d + 1) hl hP) (fun W' ts' hl hP => p_term c pl er n W' ts' (d + 1) hl hP)
    | false =>
      have ho' : ¬ t.txt.toList = [40] := by simpa using ho
      by_cases h1 : t.txt.toList = wTrue
      · have er' : rdForm c.N (n + 1) d (t :: us) = .ok (.mk 0 t.txt 0 []) us := by rw [rdForm.eq_def]; simp only; rw [if_neg ho', if_pos (Or.inl h1)]
        rw [er']; exact p_form_true h ho h1
      · by_cases h2 : t.txt.toList = wFalse
        · have er' : rdForm c.N (n + 1) d (t :: us) = .ok (.mk 0 t.txt 0 []) us := by rw [rdForm.eq_def]; simp only; rw [if_neg ho', if_pos (Or.inr h2)]
          rw [er']; exact p_form_false h ho h2
        · have er' : rdForm c.N (n + 1) d (t :: us) = .no 2 t.pos := by rw [rdForm.eq_def]; simp only; rw [if_neg ho', if_neg (fun e => e.elim h1 h2)]
          rw [er']; exact p_form_no h ho h1 h2

end Go.Proofs.YtihpglkehkgioaaGreatDoor
