/- The program's reader: a term, whatever comes. -/
import Derived.Test.YtihpglkehkgioaaGreatDoorOwn19
namespace Go.Proofs.YtihpglkehkgioaaGreatDoor
open Go.RowKit Ar

theorem kOf_open {l : List UInt8} : (kOf l == 1) = (l == [40]) := by
  unfold kOf
  by_cases h0 : l = []
  · subst h0; decide
  · by_cases h1 : l = [40]
    · subst h1; decide
    · rw [if_neg h0, if_neg h1]
      have : (l == [40]) = false := by
        cases hq : (l == [40]) with
        | false => rfl
        | true => exact absurd (beq_iff_eq.1 hq) h1
      rw [this]
      split <;> decide

set_option maxRecDepth 100000 in
set_option maxHeartbeats 400000 in
theorem p_term_app {w : World} {c : PCtx} {t : Tk} {ts : List Tk} {d pl er : Int} (r : Rs Nd) (h : PR w c (t :: ts) d pl er) (ho : (t.txt.toList == [40]) = true)
    (hf : ∀ (w : World), PR w c (t :: ts) d pl er → Calls Tryz.prog 122 #[.pointer (some ⟨c.rb, 0, none⟩)] w (PPost w c d pl er r)) :
    Calls Tryz.prog 113 #[.pointer (some ⟨c.rb, 0, none⟩)] w (PPost w c d pl er r) := by
  have F0 := fld0
  have F2 := fld2
  have hrb := h.rbs
  have hrn : ¬ w.heap.size = c.rb := by omega
  have htb := h.tbs
  have hsb := h.sbs
  have HNV := hide h.nvs
  have HX0 : Hid (Ext (fun _ => False) w (w.alloc (.cells #[.int .i64 0, .string ⟨#[]⟩, .int .i64 0, .slice none 0 0] 72))) := (Ext.refl _ w).alloc _
  have H0 := hide (h.new HX0.out)
  have HF := hide hf
  have hk := (kOf_open (l := t.txt.toList)).trans ho
  clear F2
  clear h hf ho
  cases r with
  | no e p =>
    go_enter Tryz.func113, Tryz.ntmps113
    go_wp2_with first
        | (go_at_call 57; refine (p_next H0.out).mono ?_; rintro en w1 ⟨rfl, hx1⟩; have HX1 := hide hx1; clear hx1)
    refine (HF.out _ (H0.out.new HX1.out)).mono ?_
    rintro en w5 ⟨hx5, rfl, ts', d', hr2⟩
    have HX2 : Hid (Ext (· = c.rb) (w.alloc (.cells #[.int .i64 0, .string ⟨#[]⟩, .int .i64 0, .slice none 0 0] 72)) w5) := (HX1.out.mono (fun _ _ f => f.elim)).trans hx5
    have kb : w5.heap[w.heap.size]? = some (.cells #[.int .i64 0, .string ⟨#[]⟩, .int .i64 0, .slice none 0 0] 72) := (HX2.out.block _ (block_lt (heap_alloc_new w _)) hrn).trans (heap_alloc_new w _)
    have z0 := cell_of_block kb 0
    have z1 := cell_of_block kb 1
    have z2 := cell_of_block kb 2
    have z3 := cell_of_block kb 3
    have y0 := frozen_of_block kb 0
    have y1 := frozen_of_block kb 1
    have y2 := frozen_of_block kb 2
    have y3 := frozen_of_block kb 3
    clear kb
    clear hx5
    go_wp2_with fail
    refine bodyPost_ret (v := .tuple #[.agg #[.int .i64 0, .string ⟨#[]⟩, .int .i64 0, .slice none 0 0], .bool false]) (by simp [results, Tryz.results113, go_sem, z0, z1, z2, z3]) rfl ?_
    exact post_no HX0.out HX2.out hr2 (four_ext _ _ _ _ _ _) hrb htb hsb HNV.out
  | ok nd ts' =>
    go_enter Tryz.func113, Tryz.ntmps113
    go_wp2_with first
        | (go_at_call 57; refine (p_next H0.out).mono ?_; rintro en w1 ⟨rfl, hx1⟩; have HX1 := hide hx1; clear hx1)
    refine (HF.out _ (H0.out.new HX1.out)).mono ?_
    rintro en w5 ⟨hx5, k, wd, v, sa, sn, sc, rfl, hn, hr2⟩
    have HX2 : Hid (Ext (· = c.rb) (w.alloc (.cells #[.int .i64 0, .string ⟨#[]⟩, .int .i64 0, .slice none 0 0] 72)) w5) := (HX1.out.mono (fun _ _ f => f.elim)).trans hx5
    have kb : w5.heap[w.heap.size]? = some (.cells #[.int .i64 0, .string ⟨#[]⟩, .int .i64 0, .slice none 0 0] 72) := (HX2.out.block _ (block_lt (heap_alloc_new w _)) hrn).trans (heap_alloc_new w _)
    have z0 := cell_of_block kb 0
    have z1 := cell_of_block kb 1
    have z2 := cell_of_block kb 2
    have z3 := cell_of_block kb 3
    have y0 := frozen_of_block kb 0
    have y1 := frozen_of_block kb 1
    have y2 := frozen_of_block kb 2
    have y3 := frozen_of_block kb 3
    clear kb
    have hsz := HX1.out.size
    have HPN := hide (hn.mono (D' := fun k => w.heap.size < k) (fun k _ hk => by have h1 : w1.heap.size ≤ k := hk; simp at hsz; show w.heap.size < k; omega))
    clear hx5 hn hsz
    go_wp2_with fail
    refine bodyPost_ret (v := .tuple #[.agg #[.int .i64 k, .string wd, .int .i64 v, .slice sa sn sc], .bool true]) (by simp [results, Tryz.results113, go_sem, z0, z1, z2, z3]) rfl ?_
    exact post_ok HX0.out HX2.out hr2 HPN.out (four_ext _ _ _ _ _ _) hrb htb hsb HNV.out

set_option maxRecDepth 100000 in
set_option maxHeartbeats 400000 in
theorem p_term_const {w : World} {c : PCtx} {t : Tk} {ts : List Tk} {d pl er : Int} (r : Rs Nd) (h : PR w c (t :: ts) d pl er) (ho : (t.txt.toList == [40]) = false) (hn : isName t.txt.toList = true)
    (hf : ∀ (w : World), PR w c (t :: ts) d pl er → Calls Tryz.prog 123 #[.pointer (some ⟨c.rb, 0, none⟩)] w (PPost w c d pl er r)) :
    Calls Tryz.prog 113 #[.pointer (some ⟨c.rb, 0, none⟩)] w (PPost w c d pl er r) := by
  have F0 := fld0
  have F2 := fld2
  have hrb := h.rbs
  have hrn : ¬ w.heap.size = c.rb := by omega
  have htb := h.tbs
  have hsb := h.sbs
  have HNV := hide h.nvs
  have HX0 : Hid (Ext (fun _ => False) w (w.alloc (.cells #[.int .i64 0, .string ⟨#[]⟩, .int .i64 0, .slice none 0 0] 72))) := (Ext.refl _ w).alloc _
  have H0 := hide (h.new HX0.out)
  have HF := hide hf
  have hk := (kOf_open (l := t.txt.toList)).trans ho
  have hsm : t.txt.size ≤ maxLen := by have := h.sm; unfold maxLen; omega
  have HIS := gIs t.txt
  rw [hn] at HIS
  have HIS' := hide HIS
  clear HIS hn
  clear h hf ho
  cases r with
  | no e p =>
    go_enter Tryz.func113, Tryz.ntmps113
    go_wp2_with first
        | (go_at_call 57; refine (p_next (H0.out)).mono ?_; rintro en w1 ⟨rfl, hx1⟩; have HX1 := hide hx1; clear hx1)
        | (go_at_call 57; refine (p_next (H0.out.new HX1.out)).mono ?_; rintro en w2 ⟨rfl, hx2⟩; have HX2a := hide hx2; clear hx2)
        | (go_at_call 65; refine (HIS'.out _ hsm).mono ?_; rintro en w' ⟨rfl, rfl⟩)
    refine (HF.out _ (H0.out.new (HX1.out.trans HX2a.out))).mono ?_
    rintro en w5 ⟨hx5, rfl, ts', d', hr2⟩
    have HX2 : Hid (Ext (· = c.rb) (w.alloc (.cells #[.int .i64 0, .string ⟨#[]⟩, .int .i64 0, .slice none 0 0] 72)) w5) := ((HX1.out.trans HX2a.out).mono (fun _ _ f => f.elim)).trans hx5
    have kb : w5.heap[w.heap.size]? = some (.cells #[.int .i64 0, .string ⟨#[]⟩, .int .i64 0, .slice none 0 0] 72) := (HX2.out.block _ (block_lt (heap_alloc_new w _)) hrn).trans (heap_alloc_new w _)
    have z0 := cell_of_block kb 0
    have z1 := cell_of_block kb 1
    have z2 := cell_of_block kb 2
    have z3 := cell_of_block kb 3
    have y0 := frozen_of_block kb 0
    have y1 := frozen_of_block kb 1
    have y2 := frozen_of_block kb 2
    have y3 := frozen_of_block kb 3
    clear kb
    clear hx5
    go_wp2_with fail
    refine bodyPost_ret (v := .tuple #[.agg #[.int .i64 0, .string ⟨#[]⟩, .int .i64 0, .slice none 0 0], .bool false]) (by simp [results, Tryz.results113, go_sem, z0, z1, z2, z3]) rfl ?_
    exact post_no HX0.out HX2.out hr2 (four_ext _ _ _ _ _ _) hrb htb hsb HNV.out
  | ok nd ts' =>
    go_enter Tryz.func113, Tryz.ntmps113
    go_wp2_with first
        | (go_at_call 57; refine (p_next (H0.out)).mono ?_; rintro en w1 ⟨rfl, hx1⟩; have HX1 := hide hx1; clear hx1)
        | (go_at_call 57; refine (p_next (H0.out.new HX1.out)).mono ?_; rintro en w2 ⟨rfl, hx2⟩; have HX2a := hide hx2; clear hx2)
        | (go_at_call 65; refine (HIS'.out _ hsm).mono ?_; rintro en w' ⟨rfl, rfl⟩)
    refine (HF.out _ (H0.out.new (HX1.out.trans HX2a.out))).mono ?_
    rintro en w5 ⟨hx5, k, wd, v, sa, sn, sc, rfl, hn, hr2⟩
    have HX2 : Hid (Ext (· = c.rb) (w.alloc (.cells #[.int .i64 0, .string ⟨#[]⟩, .int .i64 0, .slice none 0 0] 72)) w5) := ((HX1.out.trans HX2a.out).mono (fun _ _ f => f.elim)).trans hx5
    have kb : w5.heap[w.heap.size]? = some (.cells #[.int .i64 0, .string ⟨#[]⟩, .int .i64 0, .slice none 0 0] 72) := (HX2.out.block _ (block_lt (heap_alloc_new w _)) hrn).trans (heap_alloc_new w _)
    have z0 := cell_of_block kb 0
    have z1 := cell_of_block kb 1
    have z2 := cell_of_block kb 2
    have z3 := cell_of_block kb 3
    have y0 := frozen_of_block kb 0
    have y1 := frozen_of_block kb 1
    have y2 := frozen_of_block kb 2
    have y3 := frozen_of_block kb 3
    clear kb
    have hsz := (HX1.out.trans HX2a.out).size
    have HPN := hide (hn.mono (D' := fun k => w.heap.size < k) (fun k _ hk => by have h1 : w2.heap.size ≤ k := hk; simp at hsz; show w.heap.size < k; omega))
    clear hx5 hn hsz
    go_wp2_with fail
    refine bodyPost_ret (v := .tuple #[.agg #[.int .i64 k, .string wd, .int .i64 v, .slice sa sn sc], .bool true]) (by simp [results, Tryz.results113, go_sem, z0, z1, z2, z3]) rfl ?_
    exact post_ok HX0.out HX2.out hr2 HPN.out (four_ext _ _ _ _ _ _) hrb htb hsb HNV.out

set_option maxRecDepth 100000 in
set_option maxHeartbeats 400000 in
theorem p_term_num {w : World} {c : PCtx} {t : Tk} {ts : List Tk} {d pl er : Int} (r : Rs Nd) (h : PR w c (t :: ts) d pl er) (ho : (t.txt.toList == [40]) = false) (hn : isName t.txt.toList = false)
    (hf : ∀ (w : World), PR w c (t :: ts) d pl er → Calls Tryz.prog 124 #[.pointer (some ⟨c.rb, 0, none⟩), .int .i64 4] w (PPost w c d pl er r)) :
    Calls Tryz.prog 113 #[.pointer (some ⟨c.rb, 0, none⟩)] w (PPost w c d pl er r) := by
  have F0 := fld0
  have F2 := fld2
  have hrb := h.rbs
  have hrn : ¬ w.heap.size = c.rb := by omega
  have htb := h.tbs
  have hsb := h.sbs
  have HNV := hide h.nvs
  have HX0 : Hid (Ext (fun _ => False) w (w.alloc (.cells #[.int .i64 0, .string ⟨#[]⟩, .int .i64 0, .slice none 0 0] 72))) := (Ext.refl _ w).alloc _
  have H0 := hide (h.new HX0.out)
  have HF := hide hf
  have hk := (kOf_open (l := t.txt.toList)).trans ho
  have hsm : t.txt.size ≤ maxLen := by have := h.sm; unfold maxLen; omega
  have HIS := gIs t.txt
  rw [hn] at HIS
  have HIS' := hide HIS
  clear HIS hn
  clear h hf ho
  cases r with
  | no e p =>
    go_enter Tryz.func113, Tryz.ntmps113
    go_wp2_with first
        | (go_at_call 57; refine (p_next (H0.out)).mono ?_; rintro en w1 ⟨rfl, hx1⟩; have HX1 := hide hx1; clear hx1)
        | (go_at_call 57; refine (p_next (H0.out.new HX1.out)).mono ?_; rintro en w2 ⟨rfl, hx2⟩; have HX2a := hide hx2; clear hx2)
        | (go_at_call 65; refine (HIS'.out _ hsm).mono ?_; rintro en w' ⟨rfl, rfl⟩)
    refine (HF.out _ (H0.out.new (HX1.out.trans HX2a.out))).mono ?_
    rintro en w5 ⟨hx5, rfl, ts', d', hr2⟩
    have HX2 : Hid (Ext (· = c.rb) (w.alloc (.cells #[.int .i64 0, .string ⟨#[]⟩, .int .i64 0, .slice none 0 0] 72)) w5) := ((HX1.out.trans HX2a.out).mono (fun _ _ f => f.elim)).trans hx5
    have kb : w5.heap[w.heap.size]? = some (.cells #[.int .i64 0, .string ⟨#[]⟩, .int .i64 0, .slice none 0 0] 72) := (HX2.out.block _ (block_lt (heap_alloc_new w _)) hrn).trans (heap_alloc_new w _)
    have z0 := cell_of_block kb 0
    have z1 := cell_of_block kb 1
    have z2 := cell_of_block kb 2
    have z3 := cell_of_block kb 3
    have y0 := frozen_of_block kb 0
    have y1 := frozen_of_block kb 1
    have y2 := frozen_of_block kb 2
    have y3 := frozen_of_block kb 3
    clear kb
    clear hx5
    go_wp2_with fail
    refine bodyPost_ret (v := .tuple #[.agg #[.int .i64 0, .string ⟨#[]⟩, .int .i64 0, .slice none 0 0], .bool false]) (by simp [results, Tryz.results113, go_sem, z0, z1, z2, z3]) rfl ?_
    exact post_no HX0.out HX2.out hr2 (four_ext _ _ _ _ _ _) hrb htb hsb HNV.out
  | ok nd ts' =>
    go_enter Tryz.func113, Tryz.ntmps113
    go_wp2_with first
        | (go_at_call 57; refine (p_next (H0.out)).mono ?_; rintro en w1 ⟨rfl, hx1⟩; have HX1 := hide hx1; clear hx1)
        | (go_at_call 57; refine (p_next (H0.out.new HX1.out)).mono ?_; rintro en w2 ⟨rfl, hx2⟩; have HX2a := hide hx2; clear hx2)
        | (go_at_call 65; refine (HIS'.out _ hsm).mono ?_; rintro en w' ⟨rfl, rfl⟩)
    refine (HF.out _ (H0.out.new (HX1.out.trans HX2a.out))).mono ?_
    rintro en w5 ⟨hx5, k, wd, v, sa, sn, sc, rfl, hn, hr2⟩
    have HX2 : Hid (Ext (· = c.rb) (w.alloc (.cells #[.int .i64 0, .string ⟨#[]⟩, .int .i64 0, .slice none 0 0] 72)) w5) := ((HX1.out.trans HX2a.out).mono (fun _ _ f => f.elim)).trans hx5
    have kb : w5.heap[w.heap.size]? = some (.cells #[.int .i64 0, .string ⟨#[]⟩, .int .i64 0, .slice none 0 0] 72) := (HX2.out.block _ (block_lt (heap_alloc_new w _)) hrn).trans (heap_alloc_new w _)
    have z0 := cell_of_block kb 0
    have z1 := cell_of_block kb 1
    have z2 := cell_of_block kb 2
    have z3 := cell_of_block kb 3
    have y0 := frozen_of_block kb 0
    have y1 := frozen_of_block kb 1
    have y2 := frozen_of_block kb 2
    have y3 := frozen_of_block kb 3
    clear kb
    have hsz := (HX1.out.trans HX2a.out).size
    have HPN := hide (hn.mono (D' := fun k => w.heap.size < k) (fun k _ hk => by have h1 : w2.heap.size ≤ k := hk; simp at hsz; show w.heap.size < k; omega))
    clear hx5 hn hsz
    go_wp2_with fail
    refine bodyPost_ret (v := .tuple #[.agg #[.int .i64 k, .string wd, .int .i64 v, .slice sa sn sc], .bool true]) (by simp [results, Tryz.results113, go_sem, z0, z1, z2, z3]) rfl ?_
    exact post_ok HX0.out HX2.out hr2 HPN.out (four_ext _ _ _ _ _ _) hrb htb hsb HNV.out

theorem p_term (c : PCtx) (pl er : Int) (n : Nat) : ∀ (w : World) (ts : List Tk) (d : Int), ts.length ≤ n → PR w c ts d pl er → Calls Tryz.prog 113 #[.pointer (some ⟨c.rb, 0, none⟩)] w (PPost w c d pl er (rdTerm c.N n d ts)) := by
  induction n with
  | zero =>
    intro w ts d hn h
    obtain ⟨t, us, rfl⟩ := h.head
    simp at hn
  | succ n ih =>
    intro w ts d hn h
    obtain ⟨t, us, rfl⟩ := h.head
    have harb : ∀ (l : List UInt8) (a : Int), arOf c.N l = some a → 0 ≤ a ∧ a ≤ 3 := by
      intro l a ha
      unfold arOf at ha
      cases hf : c.N.find? (fun x => x.name.toList == l) with
      | none => rw [hf] at ha; exact absurd ha (by simp)
      | some x =>
        rw [hf] at ha
        simp at ha
        rw [← ha]
        exact h.ok x (List.mem_of_find?_eq_some hf)
    cases ho : (t.txt.toList == [40]) with
    | true =>
      have ho' : t.txt.toList = [40] := beq_iff_eq.1 ho
      have hne : t.txt.toList ≠ [] := by rw [ho']; simp
      have h1 := h.wf.tail hne
      obtain ⟨u, us0, rfl⟩ : ∃ u us0, us = u :: us0 := by
        cases us with
        | nil => exact absurd rfl h1.ne
        | cons u us0 => exact ⟨u, us0, rfl⟩
      refine p_term_app _ h ho (fun W hW => ?_)
      by_cases hd : 30 ≤ d
      · have er' : rdTerm c.N (n + 1) d (t :: u :: us0) = .no 6 t.pos := by rw [rdTerm, if_pos ho', if_pos hd]
        rw [er']; exact p_app_deep hW hd
      · have hd' : d < 30 := by omega
        by_cases hk : dclErr c.N u.txt.toList = 0
        · have hnm : isName u.txt.toList = true := by
            cases hq : isName u.txt.toList with
            | true => rfl
            | false => rw [dclErr, if_pos hq] at hk; exact absurd hk (by decide)
          obtain ⟨a, ha⟩ : ∃ a, arOf c.N u.txt.toList = some a := by
            cases hq : arOf c.N u.txt.toList with
            | some a => exact ⟨a, rfl⟩
            | none => rw [dclErr, if_neg (by rw [hnm]; decide), hq, if_pos (by rfl)] at hk; exact absurd hk (by decide)
          have hb := harb _ _ ha
          by_cases h0 : a = 0
          · subst h0
            have er' : rdTerm c.N (n + 1) d (t :: u :: us0) = .no 4 u.pos := by
              rw [rdTerm, if_pos ho', if_neg hd]
              simp [hnm, ha]
            rw [er']; exact p_app_zero hW hd' hne hnm ha
          · obtain ⟨m, rfl⟩ := Int.eq_ofNat_of_zero_le hb.1
            have er' : rdTerm c.N (n + 1) d (t :: u :: us0) = rdCloses 4 3 u.txt (rdRow (List.replicate m (rdArg (rdTerm c.N n (d + 1)))) us0) := by
              rw [rdTerm, if_pos ho', if_neg hd]
              simp only [hnm, ha, if_true]
              rw [if_neg h0, Int.toNat_natCast]
            rw [er']
            exact p_app n m hW hd' hne hnm ha (by omega) (by omega) (by simp at hn; omega) _ (term_fits c.N n (d + 1)) (fun W' ts' hl hP => ih W' ts' (d + 1) hl hP)
        · have er' : rdTerm c.N (n + 1) d (t :: u :: us0) = .no (dclErr c.N u.txt.toList) u.pos := by
            rw [rdTerm, if_pos ho', if_neg hd]
            unfold dclErr at hk ⊢
            cases hq : isName u.txt.toList with
            | false => simp
            | true =>
              rw [hq] at hk
              cases ha : arOf c.N u.txt.toList with
              | none => simp
              | some a => rw [ha] at hk; exact absurd (by simp) hk
          rw [er']; exact p_app_name hW hd' hne hk
    | false =>
      have ho' : ¬ t.txt.toList = [40] := by simpa using ho
      cases hnm : isName t.txt.toList with
      | true =>
        have hv : rdTerm c.N (n + 1) d (t :: us) = nameRes c.N t us := by
          rw [rdTerm.eq_def]
          simp only
          rw [if_neg ho', hnm, if_pos rfl]
          unfold nameRes nameErr
          rw [hnm]
          cases ha : arOf c.N t.txt.toList with
          | none => simp
          | some a =>
            have hb := harb _ _ ha
            by_cases h0 : a = 0
            · subst h0; simp
            · have h4 : 0 < a := by omega
              have h5 : ¬ a < 0 := by omega
              simp [h0, h4, h5]
        rw [hv]
        exact p_term_const _ h ho hnm (fun W hW => p_constant hW)
      | false =>
        have hv : rdTerm c.N (n + 1) d (t :: us) = rdNum 4 (t :: us) := by
          rw [rdTerm.eq_def]
          simp only
          rw [if_neg ho', hnm, if_neg (by decide)]
        rw [hv]
        exact p_term_num _ h ho hnm (fun W hW => p_number 4 hW)

end Go.Proofs.YtihpglkehkgioaaGreatDoor
