/- The program's reader: a term, whatever comes; The program's table of first words, and how it is looked up. -/
import Derived.Test.YtihpglkehkgioaaGreatDoorOwn16
/- The program's reader: a term, whatever comes. -/
namespace Go.Proofs.YtihpglkehkgioaaGreatDoor
open Go.RowKit Ar

theorem kOf_open {l : List UInt8} : (kOf l == 1) = (l == [40]) := by
  unfold kOf
  by_cases h0 : l = []
  · subst h0; decide
  · by_cases h1 : l = [40]
    · subst h1; decide
    · rw [if_neg h0, if_neg h1]
      have : (l == [40]) = false := by
        cases hq : (l == [40]) with
        | false => rfl
        | true => exact absurd (beq_iff_eq.1 hq) h1
      rw [this]
      split <;> decide

set_option maxRecDepth 100000 in
set_option maxHeartbeats 400000 in
theorem p_term_app {w : World} {c : PCtx} {t : Tk} {ts : List Tk} {d pl er : Int} (r : Rs Nd) (h : PR w c (t :: ts) d pl er) (ho : (t.txt.toList == [40]) = true)
    (hf : ∀ (w : World), PR w c (t :: ts) d pl er → Calls Tryz.prog 122 #[.pointer (some ⟨c.rb, 0, none⟩)] w (PPost w c d pl er r)) :
    Calls Tryz.prog 113 #[.pointer (some ⟨c.rb, 0, none⟩)] w (PPost w c d pl er r) := by
  have F0 := fld0
  have F2 := fld2
  have hrb := h.rbs
  have hrn : ¬ w.heap.size = c.rb := by omega
  have htb := h.tbs
  have hsb := h.sbs
  have HNV := hide h.nvs
  have HX0 : Hid (Ext (fun _ => False) w (w.alloc (.cells #[.int .i64 0, .string ⟨#[]⟩, .int .i64 0, .slice none 0 0] 72))) := (Ext.refl _ w).alloc _
  have H0 := hide (h.new HX0.out)
  have HF := hide hf
  have hk := (kOf_open (l := t.txt.toList)).trans ho
  clear F2
  clear h hf ho
  cases r with
  | no e p =>
    go_enter Tryz.func113, Tryz.ntmps113
    go_wp2_with first
        | (go_at_call 57; refine (p_next H0.out).mono ?_; rintro en w1 ⟨rfl, hx1⟩; have HX1 := hide hx1; clear hx1)
    refine (HF.out _ (H0.out.new HX1.out)).mono ?_
    rintro en w5 ⟨hx5, rfl, ts', d', hr2⟩
    have HX2 : Hid (Ext (· = c.rb) (w.alloc (.cells #[.int .i64 0, .string ⟨#[]⟩, .int .i64 0, .slice none 0 0] 72)) w5) := (HX1.out.mono (fun _ _ f => f.elim)).trans hx5
    have kb : w5.heap[w.heap.size]? = some (.cells #[.int .i64 0, .string ⟨#[]⟩, .int .i64 0, .slice none 0 0] 72) := (HX2.out.block _ (block_lt (heap_alloc_new w _)) hrn).trans (heap_alloc_new w _)
    have z0 := cell_of_block kb 0
    have z1 := cell_of_block kb 1
    have z2 := cell_of_block kb 2
    have z3 := cell_of_block kb 3
    have y0 := frozen_of_block kb 0
    have y1 := frozen_of_block kb 1
    have y2 := frozen_of_block kb 2
    have y3 := frozen_of_block kb 3
    clear kb
    clear hx5
    go_wp2_with fail
    refine bodyPost_ret (v := .tuple #[.agg #[.int .i64 0, .string ⟨#[]⟩, .int .i64 0, .slice none 0 0], .bool false]) (by simp [results, Tryz.results113, go_sem, z0, z1, z2, z3]) rfl ?_
    exact post_no HX0.out HX2.out hr2 (four_ext _ _ _ _ _ _) hrb htb hsb HNV.out
  | ok nd ts' =>
    go_enter Tryz.func113, Tryz.ntmps113
    go_wp2_with first
        | (go_at_call 57; refine (p_next H0.out).mono ?_; rintro en w1 ⟨rfl, hx1⟩; have HX1 := hide hx1; clear hx1)
    refine (HF.out _ (H0.out.new HX1.out)).mono ?_
    rintro en w5 ⟨hx5, k, wd, v, sa, sn, sc, rfl, hn, hr2⟩
    have HX2 : Hid (Ext (· = c.rb) (w.alloc (.cells #[.int .i64 0, .string ⟨#[]⟩, .int .i64 0, .slice none 0 0] 72)) w5) := (HX1.out.mono (fun _ _ f => f.elim)).trans hx5
    have kb : w5.heap[w.heap.size]? = some (.cells #[.int .i64 0, .string ⟨#[]⟩, .int .i64 0, .slice none 0 0] 72) := (HX2.out.block _ (block_lt (heap_alloc_new w _)) hrn).trans (heap_alloc_new w _)
    have z0 := cell_of_block kb 0
    have z1 := cell_of_block kb 1
    have z2 := cell_of_block kb 2
    have z3 := cell_of_block kb 3
    have y0 := frozen_of_block kb 0
    have y1 := frozen_of_block kb 1
    have y2 := frozen_of_block kb 2
    have y3 := frozen_of_block kb 3
    clear kb
    have hsz := HX1.out.size
    have HPN := hide (hn.mono (D' := fun k => w.heap.size < k) (fun k _ hk => by have h1 : w1.heap.size ≤ k := hk; simp at hsz; show w.heap.size < k; omega))
    clear hx5 hn hsz
    go_wp2_with fail
    refine bodyPost_ret (v := .tuple #[.agg #[.int .i64 k, .string wd, .int .i64 v, .slice sa sn sc], .bool true]) (by simp [results, Tryz.results113, go_sem, z0, z1, z2, z3]) rfl ?_
    exact post_ok HX0.out HX2.out hr2 HPN.out (four_ext _ _ _ _ _ _) hrb htb hsb HNV.out

set_option maxRecDepth 100000 in
set_option maxHeartbeats 400000 in
theorem p_term_const {w : World} {c : PCtx} {t : Tk} {ts : List Tk} {d pl er : Int} (r : Rs Nd) (h : PR w c (t :: ts) d pl er) (ho : (t.txt.toList == [40]) = false) (hn : isName t.txt.toList = true)
    (hf : ∀ (w : World), PR w c (t :: ts) d pl er → Calls Tryz.prog 123 #[.pointer (some ⟨c.rb, 0, none⟩)] w (PPost w c d pl er r)) :
    Calls Tryz.prog 113 #[.pointer (some ⟨c.rb, 0, none⟩)] w (PPost w c d pl er r) := by
  have F0 := fld0
  have F2 := fld2
  have hrb := h.rbs
  have hrn : ¬ w.heap.size = c.rb := by omega
  have htb := h.tbs
  have hsb := h.sbs
  have HNV := hide h.nvs
  have HX0 : Hid (Ext (fun _ => False) w (w.alloc (.cells #[.int .i64 0, .string ⟨#[]⟩, .int .i64 0, .slice none 0 0] 72))) := (Ext.refl _ w).alloc _
  have H0 := hide (h.new HX0.out)
  have HF := hide hf
  have hk := (kOf_open (l := t.txt.toList)).trans ho
  have hsm : t.txt.size ≤ maxLen := by have := h.sm; unfold maxLen; omega
  have HIS := gIs t.txt
  rw [hn] at HIS
  have HIS' := hide HIS
  clear HIS hn
  clear h hf ho
  cases r with
  | no e p =>
    go_enter Tryz.func113, Tryz.ntmps113
    go_wp2_with first
        | (go_at_call 57; refine (p_next (H0.out)).mono ?_; rintro en w1 ⟨rfl, hx1⟩; have HX1 := hide hx1; clear hx1)
        | (go_at_call 57; refine (p_next (H0.out.new HX1.out)).mono ?_; rintro en w2 ⟨rfl, hx2⟩; have HX2a := hide hx2; clear hx2)
        | (go_at_call 65; refine (HIS'.out _ hsm).mono ?_; rintro en w' ⟨rfl, rfl⟩)
    refine (HF.out _ (H0.out.new (HX1.out.trans HX2a.out))).mono ?_
    rintro en w5 ⟨hx5, rfl, ts', d', hr2⟩
    have HX2 : Hid (Ext (· = c.rb) (w.alloc (.cells #[.int .i64 0, .string ⟨#[]⟩, .int .i64 0, .slice none 0 0] 72)) w5) := ((HX1.out.trans HX2a.out).mono (fun _ _ f => f.elim)).trans hx5
    have kb : w5.heap[w.heap.size]? = some (.cells #[.int .i64 0, .string ⟨#[]⟩, .int .i64 0, .slice none 0 0] 72) := (HX2.out.block _ (block_lt (heap_alloc_new w _)) hrn).trans (heap_alloc_new w _)
    have z0 := cell_of_block kb 0
    have z1 := cell_of_block kb 1
    have z2 := cell_of_block kb 2
    have z3 := cell_of_block kb 3
    have y0 := frozen_of_block kb 0
    have y1 := frozen_of_block kb 1
    have y2 := frozen_of_block kb 2
    have y3 := frozen_of_block kb 3
    clear kb
    clear hx5
    go_wp2_with fail
    refine bodyPost_ret (v := .tuple #[.agg #[.int .i64 0, .string ⟨#[]⟩, .int .i64 0, .slice none 0 0], .bool false]) (by simp [results, Tryz.results113, go_sem, z0, z1, z2, z3]) rfl ?_
    exact post_no HX0.out HX2.out hr2 (four_ext _ _ _ _ _ _) hrb htb hsb HNV.out
  | ok nd ts' =>
    go_enter Tryz.func113, Tryz.ntmps113
    go_wp2_with first
        | (go_at_call 57; refine (p_next (H0.out)).mono ?_; rintro en w1 ⟨rfl, hx1⟩; have HX1 := hide hx1; clear hx1)
        | (go_at_call 57; refine (p_next (H0.out.new HX1.out)).mono ?_; rintro en w2 ⟨rfl, hx2⟩; have HX2a := hide hx2; clear hx2)
        | (go_at_call 65; refine (HIS'.out _ hsm).mono ?_; rintro en w' ⟨rfl, rfl⟩)
    refine (HF.out _ (H0.out.new (HX1.out.trans HX2a.out))).mono ?_
    rintro en w5 ⟨hx5, k, wd, v, sa, sn, sc, rfl, hn, hr2⟩
    have HX2 : Hid (Ext (· = c.rb) (w.alloc (.cells #[.int .i64 0, .string ⟨#[]⟩, .int .i64 0, .slice none 0 0] 72)) w5) := ((HX1.out.trans HX2a.out).mono (fun _ _ f => f.elim)).trans hx5
    have kb : w5.heap[w.heap.size]? = some (.cells #[.int .i64 0, .string ⟨#[]⟩, .int .i64 0, .slice none 0 0] 72) := (HX2.out.block _ (block_lt (heap_alloc_new w _)) hrn).trans (heap_alloc_new w _)
    have z0 := cell_of_block kb 0
    have z1 := cell_of_block kb 1
    have z2 := cell_of_block kb 2
    have z3 := cell_of_block kb 3
    have y0 := frozen_of_block kb 0
    have y1 := frozen_of_block kb 1
    have y2 := frozen_of_block kb 2
    have y3 := frozen_of_block kb 3
    clear kb
    have hsz := (HX1.out.trans HX2a.out).size
    have HPN := hide (hn.mono (D' := fun k => w.heap.size < k) (fun k _ hk => by have h1 : w2.heap.size ≤ k := hk; simp at hsz; show w.heap.size < k; omega))
    clear hx5 hn hsz
    go_wp2_with fail
    refine bodyPost_ret (v := .tuple #[.agg #[.int .i64 k, .string wd, .int .i64 v, .slice sa sn sc], .bool true]) (by simp [results, Tryz.results113, go_sem, z0, z1, z2, z3]) rfl ?_
    exact post_ok HX0.out HX2.out hr2 HPN.out (four_ext _ _ _ _ _ _) hrb htb hsb HNV.out

set_option maxRecDepth 100000 in
set_option maxHeartbeats 400000 in
theorem p_term_num {w : World} {c : PCtx} {t : Tk} {ts : List Tk} {d pl er : Int} (r : Rs Nd) (h : PR w c (t :: ts) d pl er) (ho : (t.txt.toList == [40]) = false) (hn : isName t.txt.toList = false)
    (hf : ∀ (w : World), PR w c (t :: ts) d pl er → Calls Tryz.prog 124 #[.pointer (some ⟨c.rb, 0, none⟩), .int .i64 4] w (PPost w c d pl er r)) :
    Calls Tryz.prog 113 #[.pointer (some ⟨c.rb, 0, none⟩)] w (PPost w c d pl er r) := by
  have F0 := fld0
  have F2 := fld2
  have hrb := h.rbs
  have hrn : ¬ w.heap.size = c.rb := by omega
  have htb := h.tbs
  have hsb := h.sbs
  have HNV := hide h.nvs
  have HX0 : Hid (Ext (fun _ => False) w (w.alloc (.cells #[.int .i64 0, .string ⟨#[]⟩, .int .i64 0, .slice none 0 0] 72))) := (Ext.refl _ w).alloc _
  have H0 := hide (h.new HX0.out)
  have HF := hide hf
  have hk := (kOf_open (l := t.txt.toList)).trans ho
  have hsm : t.txt.size ≤ maxLen := by have := h.sm; unfold maxLen; omega
  have HIS := gIs t.txt
  rw [hn] at HIS
  have HIS' := hide HIS
  clear HIS hn
  clear h hf ho
  cases r with
  | no e p =>
    go_enter Tryz.func113, Tryz.ntmps113
    go_wp2_with first
        | (go_at_call 57; refine (p_next (H0.out)).mono ?_; rintro en w1 ⟨rfl, hx1⟩; have HX1 := hide hx1; clear hx1)
        | (go_at_call 57; refine (p_next (H0.out.new HX1.out)).mono ?_; rintro en w2 ⟨rfl, hx2⟩; have HX2a := hide hx2; clear hx2)
        | (go_at_call 65; refine (HIS'.out _ hsm).mono ?_; rintro en w' ⟨rfl, rfl⟩)
    refine (HF.out _ (H0.out.new (HX1.out.trans HX2a.out))).mono ?_
    rintro en w5 ⟨hx5, rfl, ts', d', hr2⟩
    have HX2 : Hid (Ext (· = c.rb) (w.alloc (.cells #[.int .i64 0, .string ⟨#[]⟩, .int .i64 0, .slice none 0 0] 72)) w5) := ((HX1.out.trans HX2a.out).mono (fun _ _ f => f.elim)).trans hx5
    have kb : w5.heap[w.heap.size]? = some (.cells #[.int .i64 0, .string ⟨#[]⟩, .int .i64 0, .slice none 0 0] 72) := (HX2.out.block _ (block_lt (heap_alloc_new w _)) hrn).trans (heap_alloc_new w _)
    have z0 := cell_of_block kb 0
    have z1 := cell_of_block kb 1
    have z2 := cell_of_block kb 2
    have z3 := cell_of_block kb 3
    have y0 := frozen_of_block kb 0
    have y1 := frozen_of_block kb 1
    have y2 := frozen_of_block kb 2
    have y3 := frozen_of_block kb 3
    clear kb
    clear hx5
    go_wp2_with fail
    refine bodyPost_ret (v := .tuple #[.agg #[.int .i64 0, .string ⟨#[]⟩, .int .i64 0, .slice none 0 0], .bool false]) (by simp [results, Tryz.results113, go_sem, z0, z1, z2, z3]) rfl ?_
    exact post_no HX0.out HX2.out hr2 (four_ext _ _ _ _ _ _) hrb htb hsb HNV.out
  | ok nd ts' =>
    go_enter Tryz.func113, Tryz.ntmps113
    go_wp2_with first
        | (go_at_call 57; refine (p_next (H0.out)).mono ?_; rintro en w1 ⟨rfl, hx1⟩; have HX1 := hide hx1; clear hx1)
        | (go_at_call 57; refine (p_next (H0.out.new HX1.out)).mono ?_; rintro en w2 ⟨rfl, hx2⟩; have HX2a := hide hx2; clear hx2)
        | (go_at_call 65; refine (HIS'.out _ hsm).mono ?_; rintro en w' ⟨rfl, rfl⟩)
    refine (HF.out _ (H0.out.new (HX1.out.trans HX2a.out))).mono ?_
    rintro en w5 ⟨hx5, k, wd, v, sa, sn, sc, rfl, hn, hr2⟩
    have HX2 : Hid (Ext (· = c.rb) (w.alloc (.cells #[.int .i64 0, .string ⟨#[]⟩, .int .i64 0, .slice none 0 0] 72)) w5) := ((HX1.out.trans HX2a.out).mono (fun _ _ f => f.elim)).trans hx5
    have kb : w5.heap[w.heap.size]? = some (.cells #[.int .i64 0, .string ⟨#[]⟩, .int .i64 0, .slice none 0 0] 72) := (HX2.out.block _ (block_lt (heap_alloc_new w _)) hrn).trans (heap_alloc_new w _)
    have z0 := cell_of_block kb 0
    have z1 := cell_of_block kb 1
    have z2 := cell_of_block kb 2
    have z3 := cell_of_block kb 3
    have y0 := frozen_of_block kb 0
    have y1 := frozen_of_block kb 1
    have y2 := frozen_of_block kb 2
    have y3 := frozen_of_block kb 3
    clear kb
    have hsz := (HX1.out.trans HX2a.out).size
    have HPN := hide (hn.mono (D' := fun k => w.heap.size < k) (fun k _ hk => by have h1 : w2.heap.size ≤ k := hk; simp at hsz; show w.heap.size < k; omega))
    clear hx5 hn hsz
    go_wp2_with fail
    refine bodyPost_ret (v := .tuple #[.agg #[.int .i64 k, .string wd, .int .i64 v, .slice sa sn sc], .bool true]) (by simp [results, Tryz.results113, go_sem, z0, z1, z2, z3]) rfl ?_
    exact post_ok HX0.out HX2.out hr2 HPN.out (four_ext _ _ _ _ _ _) hrb htb hsb HNV.out

theorem p_term (c : PCtx) (pl er : Int) (n : Nat) : ∀ (w : World) (ts : List Tk) (d : Int), ts.length ≤ n → PR w c ts d pl er → Calls Tryz.prog 113 #[.pointer (some ⟨c.rb, 0, none⟩)] w (PPost w c d pl er (rdTerm c.N n d ts)) := by
  induction n with
  | zero =>
    intro w ts d hn h
    obtain ⟨t, us, rfl⟩ := h.head
    simp at hn
  | succ n ih =>
    intro w ts d hn h
    obtain ⟨t, us, rfl⟩ := h.head
    have harb : ∀ (l : List UInt8) (a : Int), arOf c.N l = some a → 0 ≤ a ∧ a ≤ 3 := by
      intro l a ha
      unfold arOf at ha
      cases hf : c.N.find? (fun x => x.name.toList == l) with
      | none => rw [hf] at ha; exact absurd ha (by simp)
      | some x =>
        rw [hf] at ha
        simp at ha
        rw [← ha]
        exact h.ok x (List.mem_of_find?_eq_some hf)
    cases ho : (t.txt.toList == [40]) with
    | true =>
      have ho' : t.txt.toList = [40] := beq_iff_eq.1 ho
      have hne : t.txt.toList ≠ [] := by rw [ho']; simp
      have h1 := h.wf.tail hne
      obtain ⟨u, us0, rfl⟩ : ∃ u us0, us = u :: us0 := by
        cases us with
        | nil => exact absurd rfl h1.ne
        | cons u us0 => exact ⟨u, us0, rfl⟩
      refine p_term_app _ h ho (fun W hW => ?_)
      by_cases hd : 30 ≤ d
      · have er' : rdTerm c.N (n + 1) d (t :: u :: us0) = .no 6 t.pos := by rw [rdTerm, if_pos ho', if_pos hd]
        rw [er']; exact p_app_deep hW hd
      · have hd' : d < 30 := by omega
        by_cases hk : dclErr c.N u.txt.toList = 0
        · have hnm : isName u.txt.toList = true := by
            cases hq : isName u.txt.toList with
            | true => rfl
            | false => rw [dclErr, if_pos hq] at hk; exact absurd hk (by decide)
          obtain ⟨a, ha⟩ : ∃ a, arOf c.N u.txt.toList = some a := by
            cases hq : arOf c.N u.txt.toList with
            | some a => exact ⟨a, rfl⟩
            | none => rw [dclErr, if_neg (by rw [hnm]; decide), hq, if_pos (by rfl)] at hk; exact absurd hk (by decide)
          have hb := harb _ _ ha
          by_cases h0 : a = 0
          · subst h0
            have er' : rdTerm c.N (n + 1) d (t :: u :: us0) = .no 4 u.pos := by
              rw [rdTerm, if_pos ho', if_neg hd]
              simp [hnm, ha]
            rw [er']; exact p_app_zero hW hd' hne hnm ha
          · obtain ⟨m, rfl⟩ := Int.eq_ofNat_of_zero_le hb.1
            have er' : rdTerm c.N (n + 1) d (t :: u :: us0) = rdCloses 4 3 u.txt (rdRow (List.replicate m (rdArg (rdTerm c.N n (d + 1)))) us0) := by
              rw [rdTerm, if_pos ho', if_neg hd]
              simp only [hnm, ha, if_true]
              rw [if_neg h0, Int.toNat_natCast]
            rw [er']
            exact p_app n m hW hd' hne hnm ha (by omega) (by omega) (by simp at hn; omega) _ (term_fits c.N n (d + 1)) (fun W' ts' hl hP => ih W' ts' (d + 1) hl hP)
        · have er' : rdTerm c.N (n + 1) d (t :: u :: us0) = .no (dclErr c.N u.txt.toList) u.pos := by
            rw [rdTerm, if_pos ho', if_neg hd]
            unfold dclErr at hk ⊢
            cases hq : isName u.txt.toList with
            | false => simp
            | true =>
              rw [hq] at hk
              cases ha : arOf c.N u.txt.toList with
              | none => simp
              | some a => rw [ha] at hk; exact absurd (by simp) hk
          rw [er']; exact p_app_name hW hd' hne hk
    | false =>
      have ho' : ¬ t.txt.toList = [40] := by simpa using ho
      cases hnm : isName t.txt.toList with
      | true =>
        have hv : rdTerm c.N (n + 1) d (t :: us) = nameRes c.N t us := by
          rw [rdTerm.eq_def]
          simp only
          rw [if_neg ho', hnm, if_pos rfl]
          unfold nameRes nameErr
          rw [hnm]
          cases ha : arOf c.N t.txt.toList with
          | none => simp
          | some a =>
            have hb := harb _ _ ha
            by_cases h0 : a = 0
            · subst h0; simp
            · have h4 : 0 < a := by omega
              have h5 : ¬ a < 0 := by omega
              simp [h0, h4, h5]
        rw [hv]
        exact p_term_const _ h ho hnm (fun W hW => p_constant hW)
      | false =>
        have hv : rdTerm c.N (n + 1) d (t :: us) = rdNum 4 (t :: us) := by
          rw [rdTerm.eq_def]
          simp only
          rw [if_neg ho', hnm, if_neg (by decide)]
        rw [hv]
        exact p_term_num _ h ho hnm (fun W hW => p_number 4 hW)

end Go.Proofs.YtihpglkehkgioaaGreatDoor

/- The program's table of first words, and how it is looked up. -/
namespace Go.Proofs.YtihpglkehkgioaaGreatDoor
open Go.RowKit Ar

theorem hd_index (w : World) : ∀ (k : Nat) (x : ByteArray × Int × Int), hdRows[k]? = some x → Sem.run Tryz.prog (Instr.index 212 (.agg hdCells) (.int .i64 (k : Int))) w = .ok (.agg #[.string x.1, .int .i64 x.2.1, .int .i64 x.2.2]) w
  | 0, x, h => by simp [hdRows] at h; subst h; kernel_rfl
  | 1, x, h => by simp [hdRows] at h; subst h; kernel_rfl
  | 2, x, h => by simp [hdRows] at h; subst h; kernel_rfl
  | 3, x, h => by simp [hdRows] at h; subst h; kernel_rfl
  | 4, x, h => by simp [hdRows] at h; subst h; kernel_rfl
  | 5, x, h => by simp [hdRows] at h; subst h; kernel_rfl
  | 6, x, h => by simp [hdRows] at h; subst h; kernel_rfl
  | 7, x, h => by simp [hdRows] at h; subst h; kernel_rfl
  | 8, x, h => by simp [hdRows] at h; subst h; kernel_rfl
  | k + 9, x, h => by simp [hdRows] at h

def hdFind (l : List UInt8) : Option (ByteArray × Int × Int) := hdRows.find? (fun x => x.1.toList == l)

theorem hdFind_eq (l : List UInt8) : hdOf l = (hdFind l).map (·.2) := by
  have e : ∀ (x : List UInt8), (x == l) = decide (l = x) := fun x => by
    cases h : (x == l) with
    | true => rw [beq_iff_eq.1 h]; simp
    | false => exact (decide_eq_false (fun e => by rw [e] at h; simp at h)).symm
  unfold hdOf hdFind hdRows
  simp only [List.find?, e]
  have b0 : (⟨#[110, 111, 116]⟩ : ByteArray).toList = wNot := by kernel_rfl
  have b1 : (⟨#[97, 110, 100]⟩ : ByteArray).toList = wAnd := by kernel_rfl
  have b2 : (⟨#[111, 114]⟩ : ByteArray).toList = wOr := by kernel_rfl
  have b3 : (⟨#[61, 62]⟩ : ByteArray).toList = [61, 62] := by kernel_rfl
  have b4 : (⟨#[105, 102, 102]⟩ : ByteArray).toList = wIff := by kernel_rfl
  have b5 : (⟨#[61]⟩ : ByteArray).toList = [61] := by kernel_rfl
  have b6 : (⟨#[60]⟩ : ByteArray).toList = [60] := by kernel_rfl
  have b7 : (⟨#[60, 61]⟩ : ByteArray).toList = [60, 61] := by kernel_rfl
  have b8 : (⟨#[108, 101]⟩ : ByteArray).toList = wLe := by kernel_rfl
  rw [b0, b1, b2, b3, b4, b5, b6, b7, b8]
  by_cases h0 : l = wNot
  · simp [h0]
  by_cases h1 : l = wAnd
  · simp [h1, wAnd, wNot]
  by_cases h2 : l = wOr
  · simp [h2, wAnd, wNot, wOr]
  by_cases h3 : l = [61, 62]
  · simp [h3, wAnd, wNot, wOr]
  by_cases h4 : l = wIff
  · simp [h4, wAnd, wNot, wOr, wIff]
  by_cases h5 : l = [61]
  · simp [h5, wAnd, wNot, wOr, wIff]
  by_cases h6 : l = [60]
  · simp [h6, wAnd, wNot, wOr, wIff]
  by_cases h7 : l = [60, 61]
  · simp [h7, wAnd, wNot, wOr, wIff]
  by_cases h8 : l = wLe
  · simp [h8, wAnd, wNot, wOr, wIff, wLe]
  simp [h0, h1, h2, h3, h4, h5, h6, h7, h8]

theorem hd_hit {l : List UInt8} {k : Nat} {x : ByteArray × Int × Int} (ha : (hdRows.take k).find? (fun x => x.1.toList == l) = none) (hx : hdRows[k]? = some x) (hq : (x.1.toList == l) = true) : hdFind l = some x := by
  have hlt : k < hdRows.length := by
    rcases Nat.lt_or_ge k hdRows.length with h | h
    · exact h
    · rw [List.getElem?_eq_none h] at hx; exact absurd hx (by simp)
  have hsp : hdRows = hdRows.take k ++ x :: hdRows.drop (k + 1) := by
    conv => lhs; rw [← List.take_append_drop k hdRows]
    rw [List.drop_eq_getElem_cons hlt]
    rw [List.getElem?_eq_getElem hlt] at hx
    rw [Option.some.inj hx]
  unfold hdFind
  rw [hsp, List.find?_append, ha]
  simp [hq]

theorem hd_snoc {l : List UInt8} {k : Nat} {x : ByteArray × Int × Int} (ha : (hdRows.take k).find? (fun x => x.1.toList == l) = none) (hx : hdRows[k]? = some x) (hq : (x.1.toList == l) = false) : (hdRows.take (k + 1)).find? (fun x => x.1.toList == l) = none := by
  rw [List.take_add_one, hx, List.find?_append, ha]
  simp [hq]

def hdRes (o : Option (ByteArray × Int × Int)) : Value :=
  match o with
  | some x => .tuple #[.agg #[.string x.1, .int .i64 x.2.1, .int .i64 x.2.2], .bool true]
  | none => .tuple #[.agg #[.string ⟨#[]⟩, .int .i64 0, .int .i64 0], .bool false]

set_option maxHeartbeats 400000 in
theorem p_head {w : World} (s : ByteArray) (hg : HdLaid w) :
    Calls Tryz.prog 89 #[.string s] w fun e w' => e = .returned (hdRes (hdFind s.toList)) ∧ Ext (fun _ => False) w w' := by
  obtain ⟨t, fr, hb⟩ := hg
  have hx := hd_index
  have hlt := block_lt hb
  have HB : Hid ((w.alloc (.cells #[.string ⟨#[]⟩, .int .i64 0, .int .i64 0] 190)).heap[0]? = some (.cells hdCells t fr)) := (heap_alloc_old w _ hlt).trans hb
  clear hb
  go_enter Tryz.func89, Tryz.ntmps89
  go_wp2_with (refine wpList_load_row rfl 212 _ rfl 0 rfl t hdCells fr _ HB.out Tryz.underlying212 rfl (by kernel_rfl) ?_)
  go_loopw [7] (fun i wr => ∃ k : Nat, k ≤ 9 ∧ i = .int .i64 k ∧ (hdRows.take k).find? (fun x => x.1.toList == s.toList) = none ∧ Ext (fun _ => False) (w.alloc (.cells #[.string ⟨#[]⟩, .int .i64 0, .int .i64 0] 190)) wr) (fun i _ => 9 - (intOf i).toNat)
  case atStart => exact ⟨0, Nat.zero_le _, rfl, rfl, Ext.refl _ _⟩
  case round =>
    obtain ⟨k, hk, rfl, ha, hE⟩ := hrel
    have HA := hide ha
    have kb : wr.heap[w.heap.size]? = some (.cells #[.string ⟨#[]⟩, .int .i64 0, .int .i64 0] 190) := (hE.block _ (block_lt (heap_alloc_new w _)) (fun f => f)).trans (heap_alloc_new w _)
    have z0 := cell_of_block kb 0
    have z1 := cell_of_block kb 1
    have z2 := cell_of_block kb 2
    have y0 := frozen_of_block kb 0
    have y1 := frozen_of_block kb 1
    have y2 := frozen_of_block kb 2
    have hlt0 : w.heap.size < wr.heap.size := block_lt kb
    have hwn : ¬ w.heap.size = wr.heap.size := by omega
    have HE := hide hE
    have HE0 : Hid (Ext (fun _ => False) w wr) := ((Ext.refl _ w).alloc _).trans hE
    clear ha hE kb
    by_cases hlt : k < 9
    · obtain ⟨x, hx0⟩ : ∃ x, hdRows[k]? = some x := ⟨_, List.getElem?_eq_getElem (l := hdRows) (i := k) hlt⟩
      have hix : ∀ w, _ := fun w => hx w k x hx0
      have HX := hide hx0
      clear hx0 hx
      cases hq : (x.1.toList == s.toList) with
      | true =>
        go_wp2_with fail
        refine bodyPost_ret (v := .tuple #[.agg #[.string x.1, .int .i64 x.2.1, .int .i64 x.2.2], .bool true]) (by simp [results, Tryz.results89, go_sem, z0, z1, z2, hlt0]) rfl ⟨by rw [hd_hit HA.out HX.out hq]; rfl, ?_⟩
        refine Ext.alloc ?_ _
        exact ((HE0.out.setCell (p := ⟨w.heap.size, 0, none⟩) (fun h => absurd h (Nat.lt_irrefl _)) _).setCell (p := ⟨w.heap.size, 1, none⟩) (fun h => absurd h (Nat.lt_irrefl _)) _).setCell (p := ⟨w.heap.size, 2, none⟩) (fun h => absurd h (Nat.lt_irrefl _)) _
      | false =>
        go_wp2_with fail
        go_roundw
        case measure => simp [intOf]; omega
        case rel => exact ⟨k + 1, by omega, by go_num, hd_snoc HA.out HX.out hq, HE.out.alloc _⟩
    · have hnone : hdFind s.toList = none := by
        have h1 := HA.out
        rw [List.take_of_length_le (by show 9 ≤ k; omega)] at h1
        exact h1
      have HN := hide hnone
      clear hnone hx
      go_wp2_with fail
      refine bodyPost_ret (v := .tuple #[.agg #[.string ⟨#[]⟩, .int .i64 0, .int .i64 0], .bool false]) (by simp [results, Tryz.results89, go_sem, z0, z1, z2]) rfl ⟨by rw [HN.out]; rfl, ?_⟩
      exact ((HE0.out.setCell (p := ⟨w.heap.size, 0, none⟩) (fun h => absurd h (Nat.lt_irrefl _)) _).setCell (p := ⟨w.heap.size, 1, none⟩) (fun h => absurd h (Nat.lt_irrefl _)) _).setCell (p := ⟨w.heap.size, 2, none⟩) (fun h => absurd h (Nat.lt_irrefl _)) _

end Go.Proofs.YtihpglkehkgioaaGreatDoor
