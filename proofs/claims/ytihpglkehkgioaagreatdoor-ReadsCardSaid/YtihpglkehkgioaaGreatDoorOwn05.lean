/- The reader of the document's own answer: a number, a name; The reader of the document's own answer: a name. -/
import Derived.Test.YtihpglkehkgioaaGreatDoorOwn03
import Derived.Test.YtihpglkehkgioaaGreatDoorOwn04
/- The reader of the document's own answer: a number, a name. -/
namespace Go.Proofs.YtihpglkehkgioaaGreatDoor
open Go.RowKit Ar

theorem Rd.small {w : World} {c : Ctx} {t : Tk} {ts : List Tk} {d err pl : Int} (h : Rd w c (t :: ts) d err pl) : t.txt.size ≤ maxLen := by
  obtain ⟨i, hi, hn, ht, hb⟩ := h.here
  have := ht.2.2.1
  unfold maxLen
  omega

theorem Rd.lay {w : World} {c : Ctx} {ts : List Tk} {d err pl : Int} (h : Rd w c ts d err pl) : c.N.length ≤ 20 ∧ c.rb < w.heap.size := ⟨h.few, h.rbs⟩

theorem num_word {l : List UInt8} {v : Int} (h : numOf l = some v) : (l == [40]) = false ∧ (l == [41]) = false ∧ l.isEmpty = false := by
  have e1 : numOf [40] = none := by decide
  have e2 : numOf [41] = none := by decide
  have e3 : numOf [] = none := by decide
  refine ⟨?_, ?_, ?_⟩
  · cases hq : (l == [40]) with
    | false => rfl
    | true => rw [beq_iff_eq.1 hq, e1] at h; exact absurd h (by simp)
  · cases hq : (l == [41]) with
    | false => rfl
    | true => rw [beq_iff_eq.1 hq, e2] at h; exact absurd h (by simp)
  · cases l with
    | nil => rw [e3] at h; exact absurd h (by simp)
    | cons => rfl

theorem name_word {l : List UInt8} (h : isName l = true) : (l == [40]) = false ∧ (l == [41]) = false ∧ l.isEmpty = false := by
  refine ⟨?_, ?_, ?_⟩
  · cases hq : (l == [40]) with
    | false => rfl
    | true => rw [beq_iff_eq.1 hq] at h; exact absurd h (by decide)
  · cases hq : (l == [41]) with
    | false => rfl
    | true => rw [beq_iff_eq.1 hq] at h; exact absurd h (by decide)
  · cases l with
    | nil => exact absurd h (by decide)
    | cons => rfl

theorem num_bd {l : List UInt8} {v : Int} (h : numOf l = some v) : -1001 ≤ v ∧ v ≤ 1001 := by
  unfold numOf at h
  split at h
  · exact absurd h (by simp)
  · rename_i hc
    have hd : (unMinus l).all digit = true := by
      cases hq : (unMinus l).all digit with
      | true => rfl
      | false => exact absurd (Or.inr (Or.inl hq)) hc
    have hb := val_bd _ hd
    split at h <;> (have := Option.some.inj h; omega)

set_option maxHeartbeats 400000 in
/-- A number must come, and none comes. -/
theorem rd_number_no {w : World} {c : Ctx} {t : Tk} {ts : List Tk} {d pl : Int} (h : Rd w c (t :: ts) d 0 pl) (hv : numOf t.txt.toList = none) :
    Calls Tryz.prog 98 #[.pointer (some ⟨c.rb, 0, none⟩)] w fun en w' => en = .returned (.int .i64 0) ∧ Ext (· = c.rb) w w' ∧ Rd w' c (t :: ts) d 2 t.pos := by
  have hsm := h.small
  have H := hide h
  have HN := number_any t.txt
  rw [hv] at HN
  have HN' := hide HN
  clear h hv HN
  go_enter Tryz.func98, Tryz.ntmps98
  go_wp2_with first
    | (go_at_call 72; refine (rd_next H.out).mono ?_; rintro e w' ⟨rfl, m, rfl⟩)
    | (go_at_call 86; refine (HN'.out _ hsm).mono ?_; rintro e w' ⟨rfl, rfl⟩)
    | (go_at_call 73; refine (rd_fail_live _ (H.out.drewN _)).mono ?_; rintro e w1 ⟨rfl, hx, hr⟩)
    | (go_at_call 100; refine (rd_take_dead hr (by decide)).mono ?_; rintro e w' ⟨rfl, m2, rfl⟩)
  go_ret
  exact ⟨rfl, (((Ext.refl _ w).drewN _).trans hx).drewN _, hr.drewN _⟩

set_option maxHeartbeats 400000 in
/-- A number must come; one comes that is too great. -/
theorem rd_number_great {w : World} {c : Ctx} {t : Tk} {ts : List Tk} {d pl v : Int} (h : Rd w c (t :: ts) d 0 pl) (hv : numOf t.txt.toList = some v) (hg : v < -1000 ∨ 1000 < v) :
    Calls Tryz.prog 98 #[.pointer (some ⟨c.rb, 0, none⟩)] w fun en w' => en = .returned (.int .i64 v) ∧ Ext (· = c.rb) w w' ∧ Rd w' c (t :: ts) d 5 t.pos := by
  have hsm := h.small
  have H := hide h
  have HN := number_any t.txt
  rw [hv] at HN
  have HN' := hide HN
  have hb := num_bd hv
  clear h hv HN
  rcases hg with hg | hg
  all_goals
    go_enter Tryz.func98, Tryz.ntmps98
    go_wp2_with first
      | (go_at_call 72; refine (rd_next H.out).mono ?_; rintro e w' ⟨rfl, m, rfl⟩)
      | (go_at_call 86; refine (HN'.out _ hsm).mono ?_; rintro e w' ⟨rfl, rfl⟩)
      | (go_at_call 73; refine (rd_fail_live _ (H.out.drewN _)).mono ?_; rintro e w1 ⟨rfl, hx, hr⟩)
      | (go_at_call 100; refine (rd_take_dead hr (by decide)).mono ?_; rintro e w' ⟨rfl, m2, rfl⟩)
    go_ret
    exact ⟨rfl, (((Ext.refl _ w).drewN _).trans hx).drewN _, hr.drewN _⟩

set_option maxHeartbeats 400000 in
/-- A number must come, and comes. -/
theorem rd_number_ok {w : World} {c : Ctx} {t : Tk} {ts : List Tk} {d pl v : Int} (h : Rd w c (t :: ts) d 0 pl) (hv : numOf t.txt.toList = some v) (hg1 : -1000 ≤ v) (hg2 : v ≤ 1000) :
    Calls Tryz.prog 98 #[.pointer (some ⟨c.rb, 0, none⟩)] w fun en w' => en = .returned (.int .i64 v) ∧ Ext (· = c.rb) w w' ∧ Rd w' c ts d 0 pl := by
  have hsm := h.small
  have H := hide h
  have HN := number_any t.txt
  obtain ⟨q1, q2, q3⟩ := num_word hv
  rw [hv] at HN
  have HN' := hide HN
  clear h hv HN
  go_enter Tryz.func98, Tryz.ntmps98
  go_wp2_with first
    | (go_at_call 72; refine (rd_next H.out).mono ?_; rintro e w' ⟨rfl, m, rfl⟩)
    | (go_at_call 86; refine (HN'.out _ hsm).mono ?_; rintro e w' ⟨rfl, rfl⟩)
    | (go_at_call 100; refine (rd_take_word (H.out.drewN _) q1 q2 q3).mono ?_; rintro e w1 ⟨rfl, hx, hr⟩)
  go_ret
  exact ⟨rfl, ((Ext.refl _ w).drewN _).trans hx, hr⟩

end Go.Proofs.YtihpglkehkgioaaGreatDoor

/- The reader of the document's own answer: a name. -/
namespace Go.Proofs.YtihpglkehkgioaaGreatDoor
open Go.RowKit Ar

set_option maxHeartbeats 400000 in
theorem rd_name_dead {w : World} {c : Ctx} {ts : List Tk} {d err pl : Int} (b : Bool) (h : Rd w c ts d err pl) (hk : ¬ err = 0) :
    Calls Tryz.prog 99 #[.pointer (some ⟨c.rb, 0, none⟩), .bool b] w fun en w' => (∃ k : Int, en = .returned (.int .i64 k)) ∧ ∃ n, w' = w.drewN n := by
  obtain ⟨t, us, rfl⟩ := h.head
  have hsm := h.small
  obtain ⟨a, ha⟩ : ∃ a, (arOf c.N t.txt.toList).getD (-1) = a := ⟨_, rfl⟩
  have HAr := rd_arity t.txt (h.drewN 0)
  have HA : Hid (∀ m, Calls Tryz.prog 119 #[.pointer (some ⟨c.rb, 0, none⟩), .string t.txt] (w.drewN m) fun e w' => e = .returned (.int .i64 a) ∧ w' = w.drewN m) := by
    intro m; have := rd_arity t.txt (h.drewN m); rw [ha] at this; exact this
  have H := hide h
  clear h HAr ha
  cases hn : isName t.txt.toList with
  | false =>
    go_enter Tryz.func99, Tryz.ntmps99
    go_wp2_with first
      | (go_at_call 72; refine (rd_next H.out).mono ?_; rintro e w' ⟨rfl, m, rfl⟩)
      | (go_at_call 43; refine (isName_any _ _ hsm).mono ?_; rintro e w' ⟨rfl, rfl⟩)
      | (go_at_call 119; refine (HA.out _).mono ?_; rintro e w' ⟨rfl, rfl⟩)
      | (go_at_call 73; refine (rd_fail_dead _ (H.out.drewN _) hk).mono ?_; rintro e w1 ⟨rfl, rfl⟩)
      | (go_at_call 100; refine (rd_take_dead (H.out.drewN _) hk).mono ?_; rintro e w' ⟨rfl, m2, rfl⟩)
    go_ret
    exact ⟨⟨_, rfl⟩, _, rfl⟩
  | true =>
    by_cases h0 : a < 0
    · go_enter Tryz.func99, Tryz.ntmps99
      go_wp2_with first
        | (go_at_call 72; refine (rd_next H.out).mono ?_; rintro e w' ⟨rfl, m, rfl⟩)
        | (go_at_call 43; refine (isName_any _ _ hsm).mono ?_; rintro e w' ⟨rfl, rfl⟩)
        | (go_at_call 119; refine (HA.out _).mono ?_; rintro e w' ⟨rfl, rfl⟩)
        | (go_at_call 73; refine (rd_fail_dead _ (H.out.drewN _) hk).mono ?_; rintro e w1 ⟨rfl, rfl⟩)
        | (go_at_call 100; refine (rd_take_dead (H.out.drewN _) hk).mono ?_; rintro e w' ⟨rfl, m2, rfl⟩)
      go_ret
      exact ⟨⟨_, rfl⟩, _, rfl⟩
    · cases hq : (decide (0 < a) == b) with
      | false =>
        go_enter Tryz.func99, Tryz.ntmps99
        go_wp2_with first
          | (go_at_call 72; refine (rd_next H.out).mono ?_; rintro e w' ⟨rfl, m, rfl⟩)
          | (go_at_call 43; refine (isName_any _ _ hsm).mono ?_; rintro e w' ⟨rfl, rfl⟩)
          | (go_at_call 119; refine (HA.out _).mono ?_; rintro e w' ⟨rfl, rfl⟩)
          | (go_at_call 73; refine (rd_fail_dead _ (H.out.drewN _) hk).mono ?_; rintro e w1 ⟨rfl, rfl⟩)
          | (go_at_call 100; refine (rd_take_dead (H.out.drewN _) hk).mono ?_; rintro e w' ⟨rfl, m2, rfl⟩)
        go_ret
        exact ⟨⟨_, rfl⟩, _, rfl⟩
      | true =>
        go_enter Tryz.func99, Tryz.ntmps99
        go_wp2_with first
          | (go_at_call 72; refine (rd_next H.out).mono ?_; rintro e w' ⟨rfl, m, rfl⟩)
          | (go_at_call 43; refine (isName_any _ _ hsm).mono ?_; rintro e w' ⟨rfl, rfl⟩)
          | (go_at_call 119; refine (HA.out _).mono ?_; rintro e w' ⟨rfl, rfl⟩)
          | (go_at_call 100; refine (rd_take_dead (H.out.drewN _) hk).mono ?_; rintro e w' ⟨rfl, m2, rfl⟩)
        go_ret
        exact ⟨⟨_, rfl⟩, _, rfl⟩

/-- What error a name is, where one with or without arguments may stand (0: none). -/
def nameErr (N : List Nm) (b : Bool) (l : List UInt8) : Int :=
  if isName l = false then 2 else if (arOf N l).getD (-1) < 0 then 3 else if (decide (0 < (arOf N l).getD (-1)) == b) = false then 4 else 0

set_option maxHeartbeats 400000 in
theorem rd_name_no {w : World} {c : Ctx} {t : Tk} {ts : List Tk} {d pl : Int} (b : Bool) (h : Rd w c (t :: ts) d 0 pl) (hk : ¬ nameErr c.N b t.txt.toList = 0) :
    Calls Tryz.prog 99 #[.pointer (some ⟨c.rb, 0, none⟩), .bool b] w fun en w' => (∃ k : Int, en = .returned (.int .i64 k)) ∧ Ext (· = c.rb) w w' ∧ Rd w' c (t :: ts) d (nameErr c.N b t.txt.toList) t.pos := by
  have hsm := h.small
  unfold nameErr at hk ⊢
  generalize ha : (arOf c.N t.txt.toList).getD (-1) = a at *
  have HA : Hid (∀ m, Calls Tryz.prog 119 #[.pointer (some ⟨c.rb, 0, none⟩), .string t.txt] (w.drewN m) fun e w' => e = .returned (.int .i64 a) ∧ w' = w.drewN m) := by
    intro m; have := rd_arity t.txt (h.drewN m); rw [ha] at this; exact this
  have H := hide h
  clear h ha
  cases hn : isName t.txt.toList with
  | false =>
    rw [if_pos rfl]
    clear hk
    go_enter Tryz.func99, Tryz.ntmps99
    go_wp2_with first
      | (go_at_call 72; refine (rd_next H.out).mono ?_; rintro e w' ⟨rfl, m, rfl⟩)
      | (go_at_call 43; refine (isName_any _ _ hsm).mono ?_; rintro e w' ⟨rfl, rfl⟩)
      | (go_at_call 119; refine (HA.out _).mono ?_; rintro e w' ⟨rfl, rfl⟩)
      | (go_at_call 73; refine (rd_fail_live _ (H.out.drewN _)).mono ?_; rintro e w1 ⟨rfl, hx, hr⟩)
      | (go_at_call 100; refine (rd_take_dead hr (by decide)).mono ?_; rintro e w' ⟨rfl, m2, rfl⟩)
    go_ret
    exact ⟨⟨_, rfl⟩, (((Ext.refl _ w).drewN _).trans hx).drewN _, hr.drewN _⟩
  | true =>
    rw [hn] at hk
    rw [if_neg (by decide)] at hk ⊢
    by_cases h0 : a < 0
    · rw [if_pos h0]
      clear hk
      go_enter Tryz.func99, Tryz.ntmps99
      go_wp2_with first
        | (go_at_call 72; refine (rd_next H.out).mono ?_; rintro e w' ⟨rfl, m, rfl⟩)
        | (go_at_call 43; refine (isName_any _ _ hsm).mono ?_; rintro e w' ⟨rfl, rfl⟩)
        | (go_at_call 119; refine (HA.out _).mono ?_; rintro e w' ⟨rfl, rfl⟩)
        | (go_at_call 73; refine (rd_fail_live _ (H.out.drewN _)).mono ?_; rintro e w1 ⟨rfl, hx, hr⟩)
        | (go_at_call 100; refine (rd_take_dead hr (by decide)).mono ?_; rintro e w' ⟨rfl, m2, rfl⟩)
      go_ret
      exact ⟨⟨_, rfl⟩, (((Ext.refl _ w).drewN _).trans hx).drewN _, hr.drewN _⟩
    · rw [if_neg h0] at hk ⊢
      cases hq : (decide (0 < a) == b) with
      | false =>
        rw [if_pos rfl]
        clear hk
        go_enter Tryz.func99, Tryz.ntmps99
        go_wp2_with first
          | (go_at_call 72; refine (rd_next H.out).mono ?_; rintro e w' ⟨rfl, m, rfl⟩)
          | (go_at_call 43; refine (isName_any _ _ hsm).mono ?_; rintro e w' ⟨rfl, rfl⟩)
          | (go_at_call 119; refine (HA.out _).mono ?_; rintro e w' ⟨rfl, rfl⟩)
          | (go_at_call 73; refine (rd_fail_live _ (H.out.drewN _)).mono ?_; rintro e w1 ⟨rfl, hx, hr⟩)
          | (go_at_call 100; refine (rd_take_dead hr (by decide)).mono ?_; rintro e w' ⟨rfl, m2, rfl⟩)
        go_ret
        exact ⟨⟨_, rfl⟩, (((Ext.refl _ w).drewN _).trans hx).drewN _, hr.drewN _⟩
      | true => rw [hq, if_neg (by decide)] at hk; exact absurd rfl hk

set_option maxHeartbeats 400000 in
theorem rd_name_ok {w : World} {c : Ctx} {t : Tk} {ts : List Tk} {d pl : Int} (b : Bool) (h : Rd w c (t :: ts) d 0 pl) (hk : nameErr c.N b t.txt.toList = 0) :
    Calls Tryz.prog 99 #[.pointer (some ⟨c.rb, 0, none⟩), .bool b] w fun en w' => en = .returned (.int .i64 ((arOf c.N t.txt.toList).getD (-1))) ∧ Ext (· = c.rb) w w' ∧ Rd w' c ts d 0 pl := by
  have hsm := h.small
  unfold nameErr at hk
  generalize ha : (arOf c.N t.txt.toList).getD (-1) = a at *
  have HA : Hid (∀ m, Calls Tryz.prog 119 #[.pointer (some ⟨c.rb, 0, none⟩), .string t.txt] (w.drewN m) fun e w' => e = .returned (.int .i64 a) ∧ w' = w.drewN m) := by
    intro m; have := rd_arity t.txt (h.drewN m); rw [ha] at this; exact this
  have H := hide h
  clear h ha
  cases hn : isName t.txt.toList with
  | false => rw [hn, if_pos rfl] at hk; exact absurd hk (by decide)
  | true =>
    rw [hn, if_neg (by decide)] at hk
    by_cases h0 : a < 0
    · rw [if_pos h0] at hk; exact absurd hk (by decide)
    · rw [if_neg h0] at hk
      cases hq : (decide (0 < a) == b) with
      | false => rw [hq, if_pos rfl] at hk; exact absurd hk (by decide)
      | true =>
        obtain ⟨q1, q2, q3⟩ := name_word hn
        clear hk
        go_enter Tryz.func99, Tryz.ntmps99
        go_wp2_with first
          | (go_at_call 72; refine (rd_next H.out).mono ?_; rintro e w' ⟨rfl, m, rfl⟩)
          | (go_at_call 43; refine (isName_any _ _ hsm).mono ?_; rintro e w' ⟨rfl, rfl⟩)
          | (go_at_call 119; refine (HA.out _).mono ?_; rintro e w' ⟨rfl, rfl⟩)
          | (go_at_call 100; refine (rd_take_word (H.out.drewN _) q1 q2 q3).mono ?_; rintro e w1 ⟨rfl, hx, hr⟩)
        go_ret
        exact ⟨rfl, ((Ext.refl _ w).drewN _).trans hx, hr⟩

end Go.Proofs.YtihpglkehkgioaaGreatDoor
