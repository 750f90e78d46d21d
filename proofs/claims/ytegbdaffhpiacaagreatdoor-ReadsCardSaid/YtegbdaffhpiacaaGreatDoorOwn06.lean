/- The reader of the document's own answer: next, fail, take, must, over a reader in memory; The reader of the document's own answer: take and must; The reader of the document's own answer: must, and what arity a name has; The reader of the document's own answer: what arity a name has; The reader of the document's own answer: a number, a name; The reader of the document's own answer: a name. -/
import Derived.Test.YtegbdaffhpiacaaGreatDoorOwn04
import Derived.Test.YtegbdaffhpiacaaGreatDoorOwn05
/- The reader of the document's own answer: next, fail, take, must, over a reader in memory. -/
namespace Go.Proofs.YtegbdaffhpiacaaGreatDoor
open Go.RowKit Ar

theorem Rd.head {w : World} {c : Ctx} {ts : List Tk} {d err pl : Int} (h : Rd w c ts d err pl) : ∃ t us, ts = t :: us := by
  cases ts with
  | nil => exact absurd rfl h.wf.ne
  | cons t us => exact ⟨t, us, rfl⟩

/-- The reader in another world in which only its own block has turned. -/
theorem Rd.turn {w w' : World} {c : Ctx} {ts ts' : List Tk} {d err pl d' err' pl' : Int} (h : Rd w c ts d err pl) (hx : Ext (· = c.rb) w w') (hw : TW ts') (h0 : 0 ≤ d') (h3 : d' ≤ 30)
    (hh : ∃ i : Nat, i + ts'.length = c.n ∧ c.n ≤ 601 ∧ Toks w c.tb i ts' ∧
      w'.heap[c.rb]? = some (.cells #[.slice (some ⟨c.tb, 0, none⟩) c.n c.tc, .int .i64 i, .int .i64 d', .slice (some ⟨c.nb, 0, none⟩) c.N.length c.nc, .int .i64 err', .int .i64 pl'] 288)) :
    Rd w' c ts' d' err' pl' := by
  obtain ⟨i, hi, hn, ht, hb⟩ := hh
  exact ⟨hw, h0, h3, h.tbn, h.nbn, Nat.lt_of_lt_of_le h.tbs hx.size, Nat.lt_of_lt_of_le h.nbs hx.size, h.few, h.names.ext hx h.nbs h.nbn, i, hi, hn, ht.ext hx h.tbs h.tbn, hb⟩

/-- A draw turns nothing. -/
theorem Rd.drewN {w : World} {c : Ctx} {ts : List Tk} {d err pl : Int} (h : Rd w c ts d err pl) (n : Nat) : Rd (w.drewN n) c ts d err pl :=
  h.turn ((Ext.refl _ w).drewN n) h.wf h.dlo h.dhi h.here

/-- Blocks that come besides, and stores into others than the reader's, its tokens' and its names'. -/
theorem Rd.ext {w w' : World} {S : Nat → Prop} {c : Ctx} {ts : List Tk} {d err pl : Int} (h : Rd w c ts d err pl) (hx : Ext S w w') (h1 : ¬ S c.rb) (h2 : ¬ S c.tb) (h3 : ¬ S c.nb) : Rd w' c ts d err pl := by
  obtain ⟨i, hi, hn, ht, hb⟩ := h.here
  have hr : c.rb < w.heap.size := by
    by_cases hr : c.rb < w.heap.size
    · exact hr
    · rw [Array.getElem?_eq_none (by omega)] at hb; exact absurd hb (by simp)
  exact ⟨h.wf, h.dlo, h.dhi, h.tbn, h.nbn, Nat.lt_of_lt_of_le h.tbs hx.size, Nat.lt_of_lt_of_le h.nbs hx.size, h.few, h.names.ext hx h.nbs h3, i, hi, hn, ht.ext hx h.tbs h2, (hx.block _ hr h1).trans hb⟩

theorem Rd.rbs {w : World} {c : Ctx} {ts : List Tk} {d err pl : Int} (h : Rd w c ts d err pl) : c.rb < w.heap.size := by
  obtain ⟨i, hi, hn, ht, hb⟩ := h.here
  by_cases hr : c.rb < w.heap.size
  · exact hr
  · rw [Array.getElem?_eq_none (by omega)] at hb; exact absurd hb (by simp)

theorem rd_next {w : World} {c : Ctx} {t : Tk} {ts : List Tk} {d err pl : Int} (h : Rd w c (t :: ts) d err pl) :
    Calls Tryz.prog 161 #[.pointer (some ⟨c.rb, 0, none⟩)] w fun e w' => e = .returned (.string t.txt) ∧ ∃ n, w' = w.drewN n := by
  obtain ⟨i, hi, hn, ht, hb⟩ := h.here
  exact next_any w c.rb c.tb c.n c.tc i t.txt (by simp at hi; omega) (cell_of_block hb 0) (cell_of_block hb 1) ht.2.1

theorem rd_fail_live {w : World} {c : Ctx} {t : Tk} {ts : List Tk} {d pl : Int} (e : Int) (h : Rd w c (t :: ts) d 0 pl) :
    Calls Tryz.prog 162 #[.pointer (some ⟨c.rb, 0, none⟩), .int .i64 e] w fun en w' => en = .returned (.tuple #[]) ∧ Ext (· = c.rb) w w' ∧ Rd w' c (t :: ts) d e t.pos := by
  obtain ⟨i, hi, hn, ht, hb⟩ := h.here
  refine (fail_live w c.rb c.tb c.n c.tc i e t.pos _ (by simp at hi; omega) (cell_of_block hb 0) (cell_of_block hb 1) (cell_of_block hb 4) (frozen_of_block hb 4) (cell_of_block hb 5) (frozen_of_block hb 5) h.tbn ht.1).mono ?_
  rintro en w' ⟨rfl, n, rfl⟩
  have hx : Ext (· = c.rb) w (((w.setCell ⟨c.rb, 4, none⟩ (.int .i64 e)).setCell ⟨c.rb, 5, none⟩ (.int .i64 t.pos)).drewN n) :=
    (((Ext.refl (· = c.rb) w).setCell (p := ⟨c.rb, 4, none⟩) (fun _ => rfl) _).setCell (p := ⟨c.rb, 5, none⟩) (fun _ => rfl) _).drewN n
  exact ⟨rfl, hx, h.turn hx h.wf h.dlo h.dhi ⟨i, hi, hn, ht, block_setCell (block_setCell hb 4 _) 5 _⟩⟩

theorem rd_fail_dead {w : World} {c : Ctx} {ts : List Tk} {d err pl : Int} (e : Int) (h : Rd w c ts d err pl) (hk : ¬ err = 0) :
    Calls Tryz.prog 162 #[.pointer (some ⟨c.rb, 0, none⟩), .int .i64 e] w fun en w' => en = .returned (.tuple #[]) ∧ w' = w := by
  obtain ⟨i, hi, hn, ht, hb⟩ := h.here
  exact fail_dead w c.rb e err hk (cell_of_block hb 4)

set_option maxHeartbeats 400000 in
/-- take on a reader that has an error already: nothing. -/
theorem rd_take_dead {w : World} {c : Ctx} {t : Tk} {ts : List Tk} {d err pl : Int} (h : Rd w c (t :: ts) d err pl) (hk : ¬ err = 0) :
    Calls Tryz.prog 198 #[.pointer (some ⟨c.rb, 0, none⟩)] w fun en w' => en = .returned (.tuple #[]) ∧ ∃ n, w' = w.drewN n := by
  obtain ⟨i, hi, hn, ht, hb⟩ := h.here
  have c2 : w.cell? ⟨c.rb, 2, none⟩ = some (.int .i64 d) := cell_of_block hb 2
  have c4 : w.cell? ⟨c.rb, 4, none⟩ = some (.int .i64 err) := cell_of_block hb 4
  have H := hide h
  clear h hb ht
  by_cases h1 : (t.txt.toList == [40]) = true
  · by_cases h2 : (d == 30) = true
    · go_enter Tryz.func198, Tryz.ntmps198
      go_wp2_with first
        | (go_at_call 161; refine (rd_next H.out).mono ?_; rintro e w' ⟨rfl, m, rfl⟩)
        | (go_at_call 162; refine (rd_fail_dead _ (H.out.drewN _) hk).mono ?_; rintro e w' ⟨rfl, rfl⟩)
      refine bodyPost_ret (results_none rfl _ _ _) rfl ?_
      exact ⟨rfl, _, rfl⟩
    · have h2' : (d == 30) = false := by simpa using h2
      go_enter Tryz.func198, Tryz.ntmps198
      go_wp2_with (go_at_call 161; refine (rd_next H.out).mono ?_; rintro e w' ⟨rfl, m, rfl⟩)
      refine bodyPost_ret (results_none rfl _ _ _) rfl ?_
      exact ⟨rfl, _, rfl⟩
  · have h1' : (t.txt.toList == [40]) = false := by simpa using h1
    go_enter Tryz.func198, Tryz.ntmps198
    go_wp2_with (go_at_call 161; refine (rd_next H.out).mono ?_; rintro e w' ⟨rfl, m, rfl⟩)
    refine bodyPost_ret (results_none rfl _ _ _) rfl ?_
    exact ⟨rfl, _, rfl⟩

end Go.Proofs.YtegbdaffhpiacaaGreatDoor

/- The reader of the document's own answer: take and must. -/
namespace Go.Proofs.YtegbdaffhpiacaaGreatDoor
open Go.RowKit Ar

theorem Rd.c2 {w : World} {c : Ctx} {ts : List Tk} {d err pl : Int} (h : Rd w c ts d err pl) : w.cell? ⟨c.rb, 2, none⟩ = some (.int .i64 d) := by
  obtain ⟨i, hi, hn, ht, hb⟩ := h.here
  exact cell_of_block hb 2
theorem Rd.c4 {w : World} {c : Ctx} {ts : List Tk} {d err pl : Int} (h : Rd w c ts d err pl) : w.cell? ⟨c.rb, 4, none⟩ = some (.int .i64 err) := by
  obtain ⟨i, hi, hn, ht, hb⟩ := h.here
  exact cell_of_block hb 4
theorem Rd.c5 {w : World} {c : Ctx} {ts : List Tk} {d err pl : Int} (h : Rd w c ts d err pl) : w.cell? ⟨c.rb, 5, none⟩ = some (.int .i64 pl) := by
  obtain ⟨i, hi, hn, ht, hb⟩ := h.here
  exact cell_of_block hb 5

set_option maxHeartbeats 400000 in
theorem rd_take_deep {w : World} {c : Ctx} {t : Tk} {ts : List Tk} {pl : Int} (h : Rd w c (t :: ts) 30 0 pl) (h1 : (t.txt.toList == [40]) = true) :
    Calls Tryz.prog 198 #[.pointer (some ⟨c.rb, 0, none⟩)] w fun en w' => en = .returned (.tuple #[]) ∧ Ext (· = c.rb) w w' ∧ Rd w' c (t :: ts) 30 6 t.pos := by
  have c2 := h.c2
  have H := hide h
  clear h
  go_enter Tryz.func198, Tryz.ntmps198
  go_wp2_with first
    | (go_at_call 161; refine (rd_next H.out).mono ?_; rintro e w' ⟨rfl, m, rfl⟩)
    | (go_at_call 162; refine (rd_fail_live _ (H.out.drewN _)).mono ?_; rintro e w1 ⟨rfl, hx, hr⟩; have k4 := hr.c4)
  refine bodyPost_ret (results_none rfl _ _ _) rfl ?_
  exact ⟨rfl, ((Ext.refl _ w).drewN _).trans hx, hr⟩

set_option maxHeartbeats 400000 in
theorem rd_take_open {w : World} {c : Ctx} {t : Tk} {ts : List Tk} {d pl : Int} (h : Rd w c (t :: ts) d 0 pl) (h1 : (t.txt.toList == [40]) = true) (hd : d < 30) :
    Calls Tryz.prog 198 #[.pointer (some ⟨c.rb, 0, none⟩)] w fun en w' => en = .returned (.tuple #[]) ∧ Ext (· = c.rb) w w' ∧ Rd w' c ts (d + 1) 0 pl := by
  obtain ⟨i, hi, hn, ht, hb⟩ := h.here
  have c1 : w.cell? ⟨c.rb, 1, none⟩ = some (.int .i64 i) := cell_of_block hb 1
  have f1 : w.frozen? ⟨c.rb, 1, none⟩ = false := frozen_of_block hb 1
  have f2 : w.frozen? ⟨c.rb, 2, none⟩ = false := frozen_of_block hb 2
  have c2 := h.c2
  have c4 := h.c4
  have hlo := h.dlo
  have h2 : (t.txt.toList == [41]) = false := by
    rw [beq_iff_eq.1 h1]; rfl
  have h3 : t.txt.toList.isEmpty = false := by
    rw [beq_iff_eq.1 h1]; rfl
  have h4 : (d == 30) = false := by simp; omega
  have hi2 : (i : Int) ≤ 601 := by omega
  have hT : t.txt.toList ≠ [] := by rw [beq_iff_eq.1 h1]; simp
  have H := hide h
  have HI := hide hi
  have HB := hide hb
  have HT := hide ht
  have HNE := hide hT
  clear h hi hb ht hT
  go_enter Tryz.func198, Tryz.ntmps198
  go_wp2_with (go_at_call 161; refine (rd_next H.out).mono ?_; rintro e w' ⟨rfl, m, rfl⟩)
  go_end0
  have hx : Ext (· = c.rb) w (((w.setCell ⟨c.rb, 2, none⟩ (.int .i64 (d + 1))).setCell ⟨c.rb, 1, none⟩ (.int .i64 ((i : Int) + 1))).drewN m) :=
    (((Ext.refl (· = c.rb) w).setCell (p := ⟨c.rb, 2, none⟩) (fun _ => rfl) _).setCell (p := ⟨c.rb, 1, none⟩) (fun _ => rfl) _).drewN m
  exact ⟨rfl, hx, H.out.turn hx (H.out.wf.tail HNE.out) (by omega) (by omega) ⟨i + 1, by have := HI.out; simp at this; omega, hn, HT.out.2.2.2, block_setCell (block_setCell HB.out 2 _) 1 _⟩⟩

set_option maxHeartbeats 400000 in
theorem rd_take_close {w : World} {c : Ctx} {t : Tk} {ts : List Tk} {d pl : Int} (h : Rd w c (t :: ts) d 0 pl) (h2 : (t.txt.toList == [41]) = true) (hd : 1 ≤ d) :
    Calls Tryz.prog 198 #[.pointer (some ⟨c.rb, 0, none⟩)] w fun en w' => en = .returned (.tuple #[]) ∧ Ext (· = c.rb) w w' ∧ Rd w' c ts (d - 1) 0 pl := by
  obtain ⟨i, hi, hn, ht, hb⟩ := h.here
  have c1 : w.cell? ⟨c.rb, 1, none⟩ = some (.int .i64 i) := cell_of_block hb 1
  have f1 : w.frozen? ⟨c.rb, 1, none⟩ = false := frozen_of_block hb 1
  have f2 : w.frozen? ⟨c.rb, 2, none⟩ = false := frozen_of_block hb 2
  have c2 := h.c2
  have c4 := h.c4
  have hlo := h.dhi
  have h1 : (t.txt.toList == [40]) = false := by
    rw [beq_iff_eq.1 h2]; rfl
  have h3 : t.txt.toList.isEmpty = false := by
    rw [beq_iff_eq.1 h2]; rfl
  have hi2 : (i : Int) ≤ 601 := by omega
  have hT : t.txt.toList ≠ [] := by rw [beq_iff_eq.1 h2]; simp
  have H := hide h
  have HI := hide hi
  have HB := hide hb
  have HT := hide ht
  have HNE := hide hT
  clear h hi hb ht hT
  go_enter Tryz.func198, Tryz.ntmps198
  go_wp2_with (go_at_call 161; refine (rd_next H.out).mono ?_; rintro e w' ⟨rfl, m, rfl⟩)
  go_end0
  have hx : Ext (· = c.rb) w (((w.setCell ⟨c.rb, 2, none⟩ (.int .i64 (d - 1))).setCell ⟨c.rb, 1, none⟩ (.int .i64 ((i : Int) + 1))).drewN m) :=
    (((Ext.refl (· = c.rb) w).setCell (p := ⟨c.rb, 2, none⟩) (fun _ => rfl) _).setCell (p := ⟨c.rb, 1, none⟩) (fun _ => rfl) _).drewN m
  exact ⟨rfl, hx, H.out.turn hx (H.out.wf.tail HNE.out) (by omega) (by omega) ⟨i + 1, by have := HI.out; simp at this; omega, hn, HT.out.2.2.2, block_setCell (block_setCell HB.out 2 _) 1 _⟩⟩

set_option maxHeartbeats 400000 in
/-- take at a word: it is passed. -/
theorem rd_take_word {w : World} {c : Ctx} {t : Tk} {ts : List Tk} {d pl : Int} (h : Rd w c (t :: ts) d 0 pl) (h1 : (t.txt.toList == [40]) = false) (h2 : (t.txt.toList == [41]) = false) (h3 : t.txt.toList.isEmpty = false) :
    Calls Tryz.prog 198 #[.pointer (some ⟨c.rb, 0, none⟩)] w fun en w' => en = .returned (.tuple #[]) ∧ Ext (· = c.rb) w w' ∧ Rd w' c ts d 0 pl := by
  obtain ⟨i, hi, hn, ht, hb⟩ := h.here
  have c1 : w.cell? ⟨c.rb, 1, none⟩ = some (.int .i64 i) := cell_of_block hb 1
  have f1 : w.frozen? ⟨c.rb, 1, none⟩ = false := frozen_of_block hb 1
  have c4 := h.c4
  have hi2 : (i : Int) ≤ 601 := by omega
  have hT : t.txt.toList ≠ [] := by intro e; rw [e] at h3; exact absurd h3 (by decide)
  have H := hide h
  have HI := hide hi
  have HB := hide hb
  have HT := hide ht
  have HNE := hide hT
  clear h hi hb ht hT
  go_enter Tryz.func198, Tryz.ntmps198
  go_wp2_with (go_at_call 161; refine (rd_next H.out).mono ?_; rintro e w' ⟨rfl, m, rfl⟩)
  go_end0
  have hx : Ext (· = c.rb) w ((w.setCell ⟨c.rb, 1, none⟩ (.int .i64 ((i : Int) + 1))).drewN m) :=
    ((Ext.refl (· = c.rb) w).setCell (p := ⟨c.rb, 1, none⟩) (fun _ => rfl) _).drewN m
  exact ⟨rfl, hx, H.out.turn hx (H.out.wf.tail HNE.out) H.out.dlo H.out.dhi ⟨i + 1, by have := HI.out; simp at this; omega, hn, HT.out.2.2.2, block_setCell HB.out 1 _⟩⟩

end Go.Proofs.YtegbdaffhpiacaaGreatDoor

/- The reader of the document's own answer: must, and what arity a name has. -/
namespace Go.Proofs.YtegbdaffhpiacaaGreatDoor
open Go.RowKit Ar

set_option maxHeartbeats 400000 in
theorem rd_must_dead {w : World} {c : Ctx} {ts : List Tk} {d err pl : Int} (s : ByteArray) (h : Rd w c ts d err pl) (hk : ¬ err = 0) :
    Calls Tryz.prog 199 #[.pointer (some ⟨c.rb, 0, none⟩), .string s] w fun en w' => en = .returned (.tuple #[]) ∧ ∃ n, w' = w.drewN n := by
  obtain ⟨t, us, rfl⟩ := h.head
  have H := hide h
  clear h
  cases hq : (t.txt.toList == s.toList) with
  | true =>
    go_enter Tryz.func199, Tryz.ntmps199
    go_wp2_with first
      | (go_at_call 161; refine (rd_next H.out).mono ?_; rintro e w' ⟨rfl, m, rfl⟩)
      | (go_at_call 198; refine (rd_take_dead (H.out.drewN _) hk).mono ?_; rintro e w' ⟨rfl, m2, rfl⟩)
    go_end0
    exact ⟨rfl, _, rfl⟩
  | false =>
    go_enter Tryz.func199, Tryz.ntmps199
    go_wp2_with first
      | (go_at_call 161; refine (rd_next H.out).mono ?_; rintro e w' ⟨rfl, m, rfl⟩)
      | (go_at_call 162; refine (rd_fail_dead _ (H.out.drewN _) hk).mono ?_; rintro e w' ⟨rfl, rfl⟩)
      | (go_at_call 198; refine (rd_take_dead (H.out.drewN _) hk).mono ?_; rintro e w' ⟨rfl, m2, rfl⟩)
    go_end0
    exact ⟨rfl, _, rfl⟩

set_option maxHeartbeats 400000 in
theorem rd_must_no {w : World} {c : Ctx} {t : Tk} {ts : List Tk} {d pl : Int} (s : ByteArray) (h : Rd w c (t :: ts) d 0 pl) (hq : (t.txt.toList == s.toList) = false) :
    Calls Tryz.prog 199 #[.pointer (some ⟨c.rb, 0, none⟩), .string s] w fun en w' => en = .returned (.tuple #[]) ∧ Ext (· = c.rb) w w' ∧ Rd w' c (t :: ts) d 2 t.pos := by
  have H := hide h
  clear h
  go_enter Tryz.func199, Tryz.ntmps199
  go_wp2_with first
    | (go_at_call 161; refine (rd_next H.out).mono ?_; rintro e w' ⟨rfl, m, rfl⟩)
    | (go_at_call 162; refine (rd_fail_live _ (H.out.drewN _)).mono ?_; rintro e w1 ⟨rfl, hx, hr⟩)
    | (go_at_call 198; refine (rd_take_dead hr (by decide)).mono ?_; rintro e w' ⟨rfl, m2, rfl⟩)
  go_end0
  exact ⟨rfl, (((Ext.refl _ w).drewN _).trans hx).drewN _, hr.drewN _⟩

set_option maxHeartbeats 400000 in
theorem rd_must_open {w : World} {c : Ctx} {t : Tk} {ts : List Tk} {d pl : Int} (h : Rd w c (t :: ts) d 0 pl) (hq : (t.txt.toList == [40]) = true) (hd : d < 30) :
    Calls Tryz.prog 199 #[.pointer (some ⟨c.rb, 0, none⟩), .string ⟨#[40]⟩] w fun en w' => en = .returned (.tuple #[]) ∧ Ext (· = c.rb) w w' ∧ Rd w' c ts (d + 1) 0 pl := by
  have H := hide h
  clear h
  go_enter Tryz.func199, Tryz.ntmps199
  go_wp2_with first
    | (go_at_call 161; refine (rd_next H.out).mono ?_; rintro e w' ⟨rfl, m, rfl⟩)
    | (go_at_call 198; refine (rd_take_open (H.out.drewN _) hq hd).mono ?_; rintro e w1 ⟨rfl, hx, hr⟩)
  go_end0
  exact ⟨rfl, ((Ext.refl _ w).drewN _).trans hx, hr⟩

set_option maxHeartbeats 400000 in
theorem rd_must_deep {w : World} {c : Ctx} {t : Tk} {ts : List Tk} {pl : Int} (h : Rd w c (t :: ts) 30 0 pl) (hq : (t.txt.toList == [40]) = true) :
    Calls Tryz.prog 199 #[.pointer (some ⟨c.rb, 0, none⟩), .string ⟨#[40]⟩] w fun en w' => en = .returned (.tuple #[]) ∧ Ext (· = c.rb) w w' ∧ Rd w' c (t :: ts) 30 6 t.pos := by
  have H := hide h
  clear h
  go_enter Tryz.func199, Tryz.ntmps199
  go_wp2_with first
    | (go_at_call 161; refine (rd_next H.out).mono ?_; rintro e w' ⟨rfl, m, rfl⟩)
    | (go_at_call 198; refine (rd_take_deep (H.out.drewN _) hq).mono ?_; rintro e w1 ⟨rfl, hx, hr⟩)
  go_end0
  exact ⟨rfl, ((Ext.refl _ w).drewN _).trans hx, hr⟩

set_option maxHeartbeats 400000 in
theorem rd_must_close {w : World} {c : Ctx} {t : Tk} {ts : List Tk} {d pl : Int} (h : Rd w c (t :: ts) d 0 pl) (hq : (t.txt.toList == [41]) = true) (hd : 1 ≤ d) :
    Calls Tryz.prog 199 #[.pointer (some ⟨c.rb, 0, none⟩), .string ⟨#[41]⟩] w fun en w' => en = .returned (.tuple #[]) ∧ Ext (· = c.rb) w w' ∧ Rd w' c ts (d - 1) 0 pl := by
  have H := hide h
  clear h
  go_enter Tryz.func199, Tryz.ntmps199
  go_wp2_with first
    | (go_at_call 161; refine (rd_next H.out).mono ?_; rintro e w' ⟨rfl, m, rfl⟩)
    | (go_at_call 198; refine (rd_take_close (H.out.drewN _) hq hd).mono ?_; rintro e w1 ⟨rfl, hx, hr⟩)
  go_end0
  exact ⟨rfl, ((Ext.refl _ w).drewN _).trans hx, hr⟩

end Go.Proofs.YtegbdaffhpiacaaGreatDoor

/- The reader of the document's own answer: what arity a name has. -/
namespace Go.Proofs.YtegbdaffhpiacaaGreatDoor
open Go.RowKit Ar

theorem look_hit {N : List Nm} {l : List UInt8} {k : Nat} {x : Nm} (hn : (N.take k).find? (fun x => x.name.toList == l) = none) (hx : N[k]? = some x) (he : (x.name.toList == l) = true) : arOf N l = some x.ar := by
  obtain ⟨hk, hg⟩ := List.getElem?_eq_some_iff.1 hx
  have e : N.take k ++ x :: N.drop (k + 1) = N := by
    rw [← hg, List.getElem_cons_drop, List.take_append_drop]
  have e2 : (N.take k ++ x :: N.drop (k + 1)).find? (fun x => x.name.toList == l) = some x := by
    rw [List.find?_append, hn]
    simp [he]
  rw [e] at e2
  simp [arOf, e2]

theorem look_miss {N : List Nm} {l : List UInt8} (hn : N.find? (fun x => x.name.toList == l) = none) : arOf N l = none := by
  simp [arOf, hn]

theorem find_snoc {N : List Nm} {l : List UInt8} {k : Nat} {x : Nm} (hn : (N.take k).find? (fun x => x.name.toList == l) = none) (hx : N[k]? = some x) (he : (x.name.toList == l) = false) : (N.take (k + 1)).find? (fun x => x.name.toList == l) = none := by
  obtain ⟨hk, rfl⟩ := List.getElem?_eq_some_iff.1 hx
  rw [List.take_succ_eq_append_getElem hk, List.find?_append, hn]
  simp [he]

set_option maxHeartbeats 400000 in
theorem rd_arity {w : World} {c : Ctx} {ts : List Tk} {d err pl : Int} (s : ByteArray) (h : Rd w c ts d err pl) :
    Calls Tryz.prog 218 #[.pointer (some ⟨c.rb, 0, none⟩), .string s] w fun e w' => e = .returned (.int .i64 ((arOf c.N s.toList).getD (-1))) ∧ w' = w := by
  have c3 : w.cell? ⟨c.rb, 3, none⟩ = some (.slice (some ⟨c.nb, 0, none⟩) c.N.length c.nc) := by
    obtain ⟨i, hi, hn, ht, hb⟩ := h.here
    exact cell_of_block hb 3
  have hf := h.few
  have H := hide h
  clear h
  go_enter Tryz.func218, Tryz.ntmps218
  go_wp2
  go_loop [5] (fun i => ∃ k : Nat, k ≤ c.N.length ∧ i = .int .i64 k ∧ (c.N.take k).find? (fun x => x.name.toList == s.toList) = none) (fun i => c.N.length - (intOf i).toNat)
  case atStart => exact ⟨0, Nat.zero_le _, rfl, rfl⟩
  case round =>
    obtain ⟨k, hk, rfl, ha⟩ := hrel
    have HA := hide ha
    clear ha
    by_cases hlt : k < c.N.length
    · obtain ⟨x, hx⟩ : ∃ x, c.N[k]? = some x := ⟨_, List.getElem?_eq_getElem hlt⟩
      obtain ⟨e1, e2, e3, e4⟩ := H.out.names k x hx
      have HX := hide hx
      clear hx
      cases hq : (x.name.toList == s.toList) with
      | true =>
        go_wp2
        go_ret
        exact ⟨ret_int (by rw [look_hit HA.out HX.out hq]; rfl), rfl⟩
      | false =>
        go_wp2
        exact ⟨⟨k + 1, by omega, by go_num, find_snoc HA.out HX.out hq⟩, by simp [intOf]; omega⟩
    · go_wp2
      go_ret
      have h1 := HA.out
      rw [List.take_of_length_le (by omega)] at h1
      exact ⟨ret_int (by rw [look_miss h1]; rfl), rfl⟩

end Go.Proofs.YtegbdaffhpiacaaGreatDoor

/- The reader of the document's own answer: a number, a name. -/
namespace Go.Proofs.YtegbdaffhpiacaaGreatDoor
open Go.RowKit Ar

theorem Rd.small {w : World} {c : Ctx} {t : Tk} {ts : List Tk} {d err pl : Int} (h : Rd w c (t :: ts) d err pl) : t.txt.size ≤ maxLen := by
  obtain ⟨i, hi, hn, ht, hb⟩ := h.here
  have := ht.2.2.1
  unfold maxLen
  omega

theorem Rd.lay {w : World} {c : Ctx} {ts : List Tk} {d err pl : Int} (h : Rd w c ts d err pl) : c.N.length ≤ 20 ∧ c.rb < w.heap.size := ⟨h.few, h.rbs⟩

theorem num_word {l : List UInt8} {v : Int} (h : numOf l = some v) : (l == [40]) = false ∧ (l == [41]) = false ∧ l.isEmpty = false := by
  have e1 : numOf [40] = none := by decide
  have e2 : numOf [41] = none := by decide
  have e3 : numOf [] = none := by decide
  refine ⟨?_, ?_, ?_⟩
  · cases hq : (l == [40]) with
    | false => rfl
    | true => rw [beq_iff_eq.1 hq, e1] at h; exact absurd h (by simp)
  · cases hq : (l == [41]) with
    | false => rfl
    | true => rw [beq_iff_eq.1 hq, e2] at h; exact absurd h (by simp)
  · cases l with
    | nil => rw [e3] at h; exact absurd h (by simp)
    | cons => rfl

theorem name_word {l : List UInt8} (h : isName l = true) : (l == [40]) = false ∧ (l == [41]) = false ∧ l.isEmpty = false := by
  refine ⟨?_, ?_, ?_⟩
  · cases hq : (l == [40]) with
    | false => rfl
    | true => rw [beq_iff_eq.1 hq] at h; exact absurd h (by decide)
  · cases hq : (l == [41]) with
    | false => rfl
    | true => rw [beq_iff_eq.1 hq] at h; exact absurd h (by decide)
  · cases l with
    | nil => exact absurd h (by decide)
    | cons => rfl

theorem num_bd {l : List UInt8} {v : Int} (h : numOf l = some v) : -1001 ≤ v ∧ v ≤ 1001 := by
  unfold numOf at h
  split at h
  · exact absurd h (by simp)
  · rename_i hc
    have hd : (unMinus l).all digit = true := by
      cases hq : (unMinus l).all digit with
      | true => rfl
      | false => exact absurd (Or.inr (Or.inl hq)) hc
    have hb := val_bd _ hd
    split at h <;> (have := Option.some.inj h; omega)

set_option maxHeartbeats 400000 in
/-- A number must come, and none comes. -/
theorem rd_number_no {w : World} {c : Ctx} {t : Tk} {ts : List Tk} {d pl : Int} (h : Rd w c (t :: ts) d 0 pl) (hv : numOf t.txt.toList = none) :
    Calls Tryz.prog 196 #[.pointer (some ⟨c.rb, 0, none⟩)] w fun en w' => en = .returned (.int .i64 0) ∧ Ext (· = c.rb) w w' ∧ Rd w' c (t :: ts) d 2 t.pos := by
  have hsm := h.small
  have H := hide h
  have HN := number_any t.txt
  rw [hv] at HN
  have HN' := hide HN
  clear h hv HN
  go_enter Tryz.func196, Tryz.ntmps196
  go_wp2_with first
    | (go_at_call 161; refine (rd_next H.out).mono ?_; rintro e w' ⟨rfl, m, rfl⟩)
    | (go_at_call 170; refine (HN'.out _ hsm).mono ?_; rintro e w' ⟨rfl, rfl⟩)
    | (go_at_call 162; refine (rd_fail_live _ (H.out.drewN _)).mono ?_; rintro e w1 ⟨rfl, hx, hr⟩)
    | (go_at_call 198; refine (rd_take_dead hr (by decide)).mono ?_; rintro e w' ⟨rfl, m2, rfl⟩)
  go_ret
  exact ⟨rfl, (((Ext.refl _ w).drewN _).trans hx).drewN _, hr.drewN _⟩

set_option maxHeartbeats 400000 in
/-- A number must come; one comes that is too great. -/
theorem rd_number_great {w : World} {c : Ctx} {t : Tk} {ts : List Tk} {d pl v : Int} (h : Rd w c (t :: ts) d 0 pl) (hv : numOf t.txt.toList = some v) (hg : v < -1000 ∨ 1000 < v) :
    Calls Tryz.prog 196 #[.pointer (some ⟨c.rb, 0, none⟩)] w fun en w' => en = .returned (.int .i64 v) ∧ Ext (· = c.rb) w w' ∧ Rd w' c (t :: ts) d 5 t.pos := by
  have hsm := h.small
  have H := hide h
  have HN := number_any t.txt
  rw [hv] at HN
  have HN' := hide HN
  have hb := num_bd hv
  clear h hv HN
  rcases hg with hg | hg
  all_goals
    go_enter Tryz.func196, Tryz.ntmps196
    go_wp2_with first
      | (go_at_call 161; refine (rd_next H.out).mono ?_; rintro e w' ⟨rfl, m, rfl⟩)
      | (go_at_call 170; refine (HN'.out _ hsm).mono ?_; rintro e w' ⟨rfl, rfl⟩)
      | (go_at_call 162; refine (rd_fail_live _ (H.out.drewN _)).mono ?_; rintro e w1 ⟨rfl, hx, hr⟩)
      | (go_at_call 198; refine (rd_take_dead hr (by decide)).mono ?_; rintro e w' ⟨rfl, m2, rfl⟩)
    go_ret
    exact ⟨rfl, (((Ext.refl _ w).drewN _).trans hx).drewN _, hr.drewN _⟩

set_option maxHeartbeats 400000 in
/-- A number must come, and comes. -/
theorem rd_number_ok {w : World} {c : Ctx} {t : Tk} {ts : List Tk} {d pl v : Int} (h : Rd w c (t :: ts) d 0 pl) (hv : numOf t.txt.toList = some v) (hg1 : -1000 ≤ v) (hg2 : v ≤ 1000) :
    Calls Tryz.prog 196 #[.pointer (some ⟨c.rb, 0, none⟩)] w fun en w' => en = .returned (.int .i64 v) ∧ Ext (· = c.rb) w w' ∧ Rd w' c ts d 0 pl := by
  have hsm := h.small
  have H := hide h
  have HN := number_any t.txt
  obtain ⟨q1, q2, q3⟩ := num_word hv
  rw [hv] at HN
  have HN' := hide HN
  clear h hv HN
  go_enter Tryz.func196, Tryz.ntmps196
  go_wp2_with first
    | (go_at_call 161; refine (rd_next H.out).mono ?_; rintro e w' ⟨rfl, m, rfl⟩)
    | (go_at_call 170; refine (HN'.out _ hsm).mono ?_; rintro e w' ⟨rfl, rfl⟩)
    | (go_at_call 198; refine (rd_take_word (H.out.drewN _) q1 q2 q3).mono ?_; rintro e w1 ⟨rfl, hx, hr⟩)
  go_ret
  exact ⟨rfl, ((Ext.refl _ w).drewN _).trans hx, hr⟩

end Go.Proofs.YtegbdaffhpiacaaGreatDoor

/- The reader of the document's own answer: a name. -/
namespace Go.Proofs.YtegbdaffhpiacaaGreatDoor
open Go.RowKit Ar

set_option maxHeartbeats 400000 in
theorem rd_name_dead {w : World} {c : Ctx} {ts : List Tk} {d err pl : Int} (b : Bool) (h : Rd w c ts d err pl) (hk : ¬ err = 0) :
    Calls Tryz.prog 197 #[.pointer (some ⟨c.rb, 0, none⟩), .bool b] w fun en w' => (∃ k : Int, en = .returned (.int .i64 k)) ∧ ∃ n, w' = w.drewN n := by
  obtain ⟨t, us, rfl⟩ := h.head
  have hsm := h.small
  obtain ⟨a, ha⟩ : ∃ a, (arOf c.N t.txt.toList).getD (-1) = a := ⟨_, rfl⟩
  have HAr := rd_arity t.txt (h.drewN 0)
  have HA : Hid (∀ m, Calls Tryz.prog 218 #[.pointer (some ⟨c.rb, 0, none⟩), .string t.txt] (w.drewN m) fun e w' => e = .returned (.int .i64 a) ∧ w' = w.drewN m) := by
    intro m; have := rd_arity t.txt (h.drewN m); rw [ha] at this; exact this
  have H := hide h
  clear h HAr ha
  cases hn : isName t.txt.toList with
  | false =>
    go_enter Tryz.func197, Tryz.ntmps197
    go_wp2_with first
      | (go_at_call 161; refine (rd_next H.out).mono ?_; rintro e w' ⟨rfl, m, rfl⟩)
      | (go_at_call 118; refine (isName_any _ _ hsm).mono ?_; rintro e w' ⟨rfl, rfl⟩)
      | (go_at_call 218; refine (HA.out _).mono ?_; rintro e w' ⟨rfl, rfl⟩)
      | (go_at_call 162; refine (rd_fail_dead _ (H.out.drewN _) hk).mono ?_; rintro e w1 ⟨rfl, rfl⟩)
      | (go_at_call 198; refine (rd_take_dead (H.out.drewN _) hk).mono ?_; rintro e w' ⟨rfl, m2, rfl⟩)
    go_ret
    exact ⟨⟨_, rfl⟩, _, rfl⟩
  | true =>
    by_cases h0 : a < 0
    · go_enter Tryz.func197, Tryz.ntmps197
      go_wp2_with first
        | (go_at_call 161; refine (rd_next H.out).mono ?_; rintro e w' ⟨rfl, m, rfl⟩)
        | (go_at_call 118; refine (isName_any _ _ hsm).mono ?_; rintro e w' ⟨rfl, rfl⟩)
        | (go_at_call 218; refine (HA.out _).mono ?_; rintro e w' ⟨rfl, rfl⟩)
        | (go_at_call 162; refine (rd_fail_dead _ (H.out.drewN _) hk).mono ?_; rintro e w1 ⟨rfl, rfl⟩)
        | (go_at_call 198; refine (rd_take_dead (H.out.drewN _) hk).mono ?_; rintro e w' ⟨rfl, m2, rfl⟩)
      go_ret
      exact ⟨⟨_, rfl⟩, _, rfl⟩
    · cases hq : (decide (0 < a) == b) with
      | false =>
        go_enter Tryz.func197, Tryz.ntmps197
        go_wp2_with first
          | (go_at_call 161; refine (rd_next H.out).mono ?_; rintro e w' ⟨rfl, m, rfl⟩)
          | (go_at_call 118; refine (isName_any _ _ hsm).mono ?_; rintro e w' ⟨rfl, rfl⟩)
          | (go_at_call 218; refine (HA.out _).mono ?_; rintro e w' ⟨rfl, rfl⟩)
          | (go_at_call 162; refine (rd_fail_dead _ (H.out.drewN _) hk).mono ?_; rintro e w1 ⟨rfl, rfl⟩)
          | (go_at_call 198; refine (rd_take_dead (H.out.drewN _) hk).mono ?_; rintro e w' ⟨rfl, m2, rfl⟩)
        go_ret
        exact ⟨⟨_, rfl⟩, _, rfl⟩
      | true =>
        go_enter Tryz.func197, Tryz.ntmps197
        go_wp2_with first
          | (go_at_call 161; refine (rd_next H.out).mono ?_; rintro e w' ⟨rfl, m, rfl⟩)
          | (go_at_call 118; refine (isName_any _ _ hsm).mono ?_; rintro e w' ⟨rfl, rfl⟩)
          | (go_at_call 218; refine (HA.out _).mono ?_; rintro e w' ⟨rfl, rfl⟩)
          | (go_at_call 198; refine (rd_take_dead (H.out.drewN _) hk).mono ?_; rintro e w' ⟨rfl, m2, rfl⟩)
        go_ret
        exact ⟨⟨_, rfl⟩, _, rfl⟩

/-- What error a name is, where one with or without arguments may stand (0: none). -/
def nameErr (N : List Nm) (b : Bool) (l : List UInt8) : Int :=
  if isName l = false then 2 else if (arOf N l).getD (-1) < 0 then 3 else if (decide (0 < (arOf N l).getD (-1)) == b) = false then 4 else 0

set_option maxHeartbeats 400000 in
theorem rd_name_no {w : World} {c : Ctx} {t : Tk} {ts : List Tk} {d pl : Int} (b : Bool) (h : Rd w c (t :: ts) d 0 pl) (hk : ¬ nameErr c.N b t.txt.toList = 0) :
    Calls Tryz.prog 197 #[.pointer (some ⟨c.rb, 0, none⟩), .bool b] w fun en w' => (∃ k : Int, en = .returned (.int .i64 k)) ∧ Ext (· = c.rb) w w' ∧ Rd w' c (t :: ts) d (nameErr c.N b t.txt.toList) t.pos := by
  have hsm := h.small
  unfold nameErr at hk ⊢
  generalize ha : (arOf c.N t.txt.toList).getD (-1) = a at *
  have HA : Hid (∀ m, Calls Tryz.prog 218 #[.pointer (some ⟨c.rb, 0, none⟩), .string t.txt] (w.drewN m) fun e w' => e = .returned (.int .i64 a) ∧ w' = w.drewN m) := by
    intro m; have := rd_arity t.txt (h.drewN m); rw [ha] at this; exact this
  have H := hide h
  clear h ha
  cases hn : isName t.txt.toList with
  | false =>
    rw [if_pos rfl]
    clear hk
    go_enter Tryz.func197, Tryz.ntmps197
    go_wp2_with first
      | (go_at_call 161; refine (rd_next H.out).mono ?_; rintro e w' ⟨rfl, m, rfl⟩)
      | (go_at_call 118; refine (isName_any _ _ hsm).mono ?_; rintro e w' ⟨rfl, rfl⟩)
      | (go_at_call 218; refine (HA.out _).mono ?_; rintro e w' ⟨rfl, rfl⟩)
      | (go_at_call 162; refine (rd_fail_live _ (H.out.drewN _)).mono ?_; rintro e w1 ⟨rfl, hx, hr⟩)
      | (go_at_call 198; refine (rd_take_dead hr (by decide)).mono ?_; rintro e w' ⟨rfl, m2, rfl⟩)
    go_ret
    exact ⟨⟨_, rfl⟩, (((Ext.refl _ w).drewN _).trans hx).drewN _, hr.drewN _⟩
  | true =>
    rw [hn] at hk
    rw [if_neg (by decide)] at hk ⊢
    by_cases h0 : a < 0
    · rw [if_pos h0]
      clear hk
      go_enter Tryz.func197, Tryz.ntmps197
      go_wp2_with first
        | (go_at_call 161; refine (rd_next H.out).mono ?_; rintro e w' ⟨rfl, m, rfl⟩)
        | (go_at_call 118; refine (isName_any _ _ hsm).mono ?_; rintro e w' ⟨rfl, rfl⟩)
        | (go_at_call 218; refine (HA.out _).mono ?_; rintro e w' ⟨rfl, rfl⟩)
        | (go_at_call 162; refine (rd_fail_live _ (H.out.drewN _)).mono ?_; rintro e w1 ⟨rfl, hx, hr⟩)
        | (go_at_call 198; refine (rd_take_dead hr (by decide)).mono ?_; rintro e w' ⟨rfl, m2, rfl⟩)
      go_ret
      exact ⟨⟨_, rfl⟩, (((Ext.refl _ w).drewN _).trans hx).drewN _, hr.drewN _⟩
    · rw [if_neg h0] at hk ⊢
      cases hq : (decide (0 < a) == b) with
      | false =>
        rw [if_pos rfl]
        clear hk
        go_enter Tryz.func197, Tryz.ntmps197
        go_wp2_with first
          | (go_at_call 161; refine (rd_next H.out).mono ?_; rintro e w' ⟨rfl, m, rfl⟩)
          | (go_at_call 118; refine (isName_any _ _ hsm).mono ?_; rintro e w' ⟨rfl, rfl⟩)
          | (go_at_call 218; refine (HA.out _).mono ?_; rintro e w' ⟨rfl, rfl⟩)
          | (go_at_call 162; refine (rd_fail_live _ (H.out.drewN _)).mono ?_; rintro e w1 ⟨rfl, hx, hr⟩)
          | (go_at_call 198; refine (rd_take_dead hr (by decide)).mono ?_; rintro e w' ⟨rfl, m2, rfl⟩)
        go_ret
        exact ⟨⟨_, rfl⟩, (((Ext.refl _ w).drewN _).trans hx).drewN _, hr.drewN _⟩
      | true => rw [hq, if_neg (by decide)] at hk; exact absurd rfl hk

set_option maxHeartbeats 400000 in
theorem rd_name_ok {w : World} {c : Ctx} {t : Tk} {ts : List Tk} {d pl : Int} (b : Bool) (h : Rd w c (t :: ts) d 0 pl) (hk : nameErr c.N b t.txt.toList = 0) :
    Calls Tryz.prog 197 #[.pointer (some ⟨c.rb, 0, none⟩), .bool b] w fun en w' => en = .returned (.int .i64 ((arOf c.N t.txt.toList).getD (-1))) ∧ Ext (· = c.rb) w w' ∧ Rd w' c ts d 0 pl := by
  have hsm := h.small
  unfold nameErr at hk
  generalize ha : (arOf c.N t.txt.toList).getD (-1) = a at *
  have HA : Hid (∀ m, Calls Tryz.prog 218 #[.pointer (some ⟨c.rb, 0, none⟩), .string t.txt] (w.drewN m) fun e w' => e = .returned (.int .i64 a) ∧ w' = w.drewN m) := by
    intro m; have := rd_arity t.txt (h.drewN m); rw [ha] at this; exact this
  have H := hide h
  clear h ha
  cases hn : isName t.txt.toList with
  | false => rw [hn, if_pos rfl] at hk; exact absurd hk (by decide)
  | true =>
    rw [hn, if_neg (by decide)] at hk
    by_cases h0 : a < 0
    · rw [if_pos h0] at hk; exact absurd hk (by decide)
    · rw [if_neg h0] at hk
      cases hq : (decide (0 < a) == b) with
      | false => rw [hq, if_pos rfl] at hk; exact absurd hk (by decide)
      | true =>
        obtain ⟨q1, q2, q3⟩ := name_word hn
        clear hk
        go_enter Tryz.func197, Tryz.ntmps197
        go_wp2_with first
          | (go_at_call 161; refine (rd_next H.out).mono ?_; rintro e w' ⟨rfl, m, rfl⟩)
          | (go_at_call 118; refine (isName_any _ _ hsm).mono ?_; rintro e w' ⟨rfl, rfl⟩)
          | (go_at_call 218; refine (HA.out _).mono ?_; rintro e w' ⟨rfl, rfl⟩)
          | (go_at_call 198; refine (rd_take_word (H.out.drewN _) q1 q2 q3).mono ?_; rintro e w1 ⟨rfl, hx, hr⟩)
        go_ret
        exact ⟨rfl, ((Ext.refl _ w).drewN _).trans hx, hr⟩

end Go.Proofs.YtegbdaffhpiacaaGreatDoor
