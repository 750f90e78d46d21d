/- The reader of the document's own answer: a name; The program: what a number is. -/
import Derived.Test.YtihpglkehkgioaaGreatDoorOwn06
import Derived.Test.YtihpglkehkgioaaGreatDoorOwn04
/- The reader of the document's own answer: a name. -/
namespace Go.Proofs.YtihpglkehkgioaaGreatDoor
open Go.RowKit Ar

set_option maxHeartbeats 400000 in
theorem rd_name_dead {w : World} {c : Ctx} {ts : List Tk} {d err pl : Int} (b : Bool) (h : Rd w c ts d err pl) (hk : ¬ err = 0) :
    Calls Tryz.prog 99 #[.pointer (some ⟨c.rb, 0, none⟩), .bool b] w fun en w' => (∃ k : Int, en = .returned (.int .i64 k)) ∧ ∃ n, w' = w.drewN n := by
  obtain ⟨t, us, rfl⟩ := h.head
  have hsm := h.small
  obtain ⟨a, ha⟩ : ∃ a, (arOf c.N t.txt.toList).getD (-1) = a := ⟨_, rfl⟩
  have HAr := rd_arity t.txt (h.drewN 0)
  have HA : Hid (∀ m, Calls Tryz.prog 119 #[.pointer (some ⟨c.rb, 0, none⟩), .string t.txt] (w.drewN m) fun e w' => e = .returned (.int .i64 a) ∧ w' = w.drewN m) := by
    intro m; have := rd_arity t.txt (h.drewN m); rw [ha] at this; exact this
  have H := hide h
  clear h HAr ha
  cases hn : isName t.txt.toList with
  | false =>
    go_enter Tryz.func99, Tryz.ntmps99
    go_wp2_with first
      | (go_at_call 72; refine (rd_next H.out).mono ?_; rintro e w' ⟨rfl, m, rfl⟩)
      | (go_at_call 43; refine (isName_any _ _ hsm).mono ?_; rintro e w' ⟨rfl, rfl⟩)
      | (go_at_call 119; refine (HA.out _).mono ?_; rintro e w' ⟨rfl, rfl⟩)
      | (go_at_call 73; refine (rd_fail_dead _ (H.out.drewN _) hk).mono ?_; rintro e w1 ⟨rfl, rfl⟩)
      | (go_at_call 100; refine (rd_take_dead (H.out.drewN _) hk).mono ?_; rintro e w' ⟨rfl, m2, rfl⟩)
    go_ret
    exact ⟨⟨_, rfl⟩, _, rfl⟩
  | true =>
    by_cases h0 : a < 0
    · go_enter Tryz.func99, Tryz.ntmps99
      go_wp2_with first
        | (go_at_call 72; refine (rd_next H.out).mono ?_; rintro e w' ⟨rfl, m, rfl⟩)
        | (go_at_call 43; refine (isName_any _ _ hsm).mono ?_; rintro e w' ⟨rfl, rfl⟩)
        | (go_at_call 119; refine (HA.out _).mono ?_; rintro e w' ⟨rfl, rfl⟩)
        | (go_at_call 73; refine (rd_fail_dead _ (H.out.drewN _) hk).mono ?_; rintro e w1 ⟨rfl, rfl⟩)
        | (go_at_call 100; refine (rd_take_dead (H.out.drewN _) hk).mono ?_; rintro e w' ⟨rfl, m2, rfl⟩)
      go_ret
      exact ⟨⟨_, rfl⟩, _, rfl⟩
    · cases hq : (decide (0 < a) == b) with
      | false =>
        go_enter Tryz.func99, Tryz.ntmps99
        go_wp2_with first
          | (go_at_call 72; refine (rd_next H.out).mono ?_; rintro e w' ⟨rfl, m, rfl⟩)
          | (go_at_call 43; refine (isName_any _ _ hsm).mono ?_; rintro e w' ⟨rfl, rfl⟩)
          | (go_at_call 119; refine (HA.out _).mono ?_; rintro e w' ⟨rfl, rfl⟩)
          | (go_at_call 73; refine (rd_fail_dead _ (H.out.drewN _) hk).mono ?_; rintro e w1 ⟨rfl, rfl⟩)
          | (go_at_call 100; refine (rd_take_dead (H.out.drewN _) hk).mono ?_; rintro e w' ⟨rfl, m2, rfl⟩)
        go_ret
        exact ⟨⟨_, rfl⟩, _, rfl⟩
      | true =>
        go_enter Tryz.func99, Tryz.ntmps99
        go_wp2_with first
          | (go_at_call 72; refine (rd_next H.out).mono ?_; rintro e w' ⟨rfl, m, rfl⟩)
          | (go_at_call 43; refine (isName_any _ _ hsm).mono ?_; rintro e w' ⟨rfl, rfl⟩)
          | (go_at_call 119; refine (HA.out _).mono ?_; rintro e w' ⟨rfl, rfl⟩)
          | (go_at_call 100; refine (rd_take_dead (H.out.drewN _) hk).mono ?_; rintro e w' ⟨rfl, m2, rfl⟩)
        go_ret
        exact ⟨⟨_, rfl⟩, _, rfl⟩

/-- What error a name is, where one with or without arguments may stand (0: none). -/
def nameErr (N : List Nm) (b : Bool) (l : List UInt8) : Int :=
  if isName l = false then 2 else if (arOf N l).getD (-1) < 0 then 3 else if (decide (0 < (arOf N l).getD (-1)) == b) = false then 4 else 0

set_option maxHeartbeats 400000 in
theorem rd_name_no {w : World} {c : Ctx} {t : Tk} {ts : List Tk} {d pl : Int} (b : Bool) (h : Rd w c (t :: ts) d 0 pl) (hk : ¬ nameErr c.N b t.txt.toList = 0) :
    Calls Tryz.prog 99 #[.pointer (some ⟨c.rb, 0, none⟩), .bool b] w fun en w' => (∃ k : Int, en = .returned (.int .i64 k)) ∧ Ext (· = c.rb) w w' ∧ Rd w' c (t :: ts) d (nameErr c.N b t.txt.toList) t.pos := by
  have hsm := h.small
  unfold nameErr at hk ⊢
  generalize ha : (arOf c.N t.txt.toList).getD (-1) = a at *
  have HA : Hid (∀ m, Calls Tryz.prog 119 #[.pointer (some ⟨c.rb, 0, none⟩), .string t.txt] (w.drewN m) fun e w' => e = .returned (.int .i64 a) ∧ w' = w.drewN m) := by
    intro m; have := rd_arity t.txt (h.drewN m); rw [ha] at this; exact this
  have H := hide h
  clear h ha
  cases hn : isName t.txt.toList with
  | false =>
    rw [if_pos rfl]
    clear hk
    go_enter Tryz.func99, Tryz.ntmps99
    go_wp2_with first
      | (go_at_call 72; refine (rd_next H.out).mono ?_; rintro e w' ⟨rfl, m, rfl⟩)
      | (go_at_call 43; refine (isName_any _ _ hsm).mono ?_; rintro e w' ⟨rfl, rfl⟩)
      | (go_at_call 119; refine (HA.out _).mono ?_; rintro e w' ⟨rfl, rfl⟩)
      | (go_at_call 73; refine (rd_fail_live _ (H.out.drewN _)).mono ?_; rintro e w1 ⟨rfl, hx, hr⟩)
      | (go_at_call 100; refine (rd_take_dead hr (by decide)).mono ?_; rintro e w' ⟨rfl, m2, rfl⟩)
    go_ret
    exact ⟨⟨_, rfl⟩, (((Ext.refl _ w).drewN _).trans hx).drewN _, hr.drewN _⟩
  | true =>
    rw [hn] at hk
    rw [if_neg (by decide)] at hk ⊢
    by_cases h0 : a < 0
    · rw [if_pos h0]
      clear hk
      go_enter Tryz.func99, Tryz.ntmps99
      go_wp2_with first
        | (go_at_call 72; refine (rd_next H.out).mono ?_; rintro e w' ⟨rfl, m, rfl⟩)
        | (go_at_call 43; refine (isName_any _ _ hsm).mono ?_; rintro e w' ⟨rfl, rfl⟩)
        | (go_at_call 119; refine (HA.out _).mono ?_; rintro e w' ⟨rfl, rfl⟩)
        | (go_at_call 73; refine (rd_fail_live _ (H.out.drewN _)).mono ?_; rintro e w1 ⟨rfl, hx, hr⟩)
        | (go_at_call 100; refine (rd_take_dead hr (by decide)).mono ?_; rintro e w' ⟨rfl, m2, rfl⟩)
      go_ret
      exact ⟨⟨_, rfl⟩, (((Ext.refl _ w).drewN _).trans hx).drewN _, hr.drewN _⟩
    · rw [if_neg h0] at hk ⊢
      cases hq : (decide (0 < a) == b) with
      | false =>
        rw [if_pos rfl]
        clear hk
        go_enter Tryz.func99, Tryz.ntmps99
        go_wp2_with first
          | (go_at_call 72; refine (rd_next H.out).mono ?_; rintro e w' ⟨rfl, m, rfl⟩)
          | (go_at_call 43; refine (isName_any _ _ hsm).mono ?_; rintro e w' ⟨rfl, rfl⟩)
          | (go_at_call 119; refine (HA.out _).mono ?_; rintro e w' ⟨rfl, rfl⟩)
          | (go_at_call 73; refine (rd_fail_live _ (H.out.drewN _)).mono ?_; rintro e w1 ⟨rfl, hx, hr⟩)
          | (go_at_call 100; refine (rd_take_dead hr (by decide)).mono ?_; rintro e w' ⟨rfl, m2, rfl⟩)
        go_ret
        exact ⟨⟨_, rfl⟩, (((Ext.refl _ w).drewN _).trans hx).drewN _, hr.drewN _⟩
      | true => rw [hq, if_neg (by decide)] at hk; exact absurd rfl hk

set_option maxHeartbeats 400000 in
theorem rd_name_ok {w : World} {c : Ctx} {t : Tk} {ts : List Tk} {d pl : Int} (b : Bool) (h : Rd w c (t :: ts) d 0 pl) (hk : nameErr c.N b t.txt.toList = 0) :
    Calls Tryz.prog 99 #[.pointer (some ⟨c.rb, 0, none⟩), .bool b] w fun en w' => en = .returned (.int .i64 ((arOf c.N t.txt.toList).getD (-1))) ∧ Ext (· = c.rb) w w' ∧ Rd w' c ts d 0 pl := by
  have hsm := h.small
  unfold nameErr at hk
  generalize ha : (arOf c.N t.txt.toList).getD (-1) = a at *
  have HA : Hid (∀ m, Calls Tryz.prog 119 #[.pointer (some ⟨c.rb, 0, none⟩), .string t.txt] (w.drewN m) fun e w' => e = .returned (.int .i64 a) ∧ w' = w.drewN m) := by
    intro m; have := rd_arity t.txt (h.drewN m); rw [ha] at this; exact this
  have H := hide h
  clear h ha
  cases hn : isName t.txt.toList with
  | false => rw [hn, if_pos rfl] at hk; exact absurd hk (by decide)
  | true =>
    rw [hn, if_neg (by decide)] at hk
    by_cases h0 : a < 0
    · rw [if_pos h0] at hk; exact absurd hk (by decide)
    · rw [if_neg h0] at hk
      cases hq : (decide (0 < a) == b) with
      | false => rw [hq, if_pos rfl] at hk; exact absurd hk (by decide)
      | true =>
        obtain ⟨q1, q2, q3⟩ := name_word hn
        clear hk
        go_enter Tryz.func99, Tryz.ntmps99
        go_wp2_with first
          | (go_at_call 72; refine (rd_next H.out).mono ?_; rintro e w' ⟨rfl, m, rfl⟩)
          | (go_at_call 43; refine (isName_any _ _ hsm).mono ?_; rintro e w' ⟨rfl, rfl⟩)
          | (go_at_call 119; refine (HA.out _).mono ?_; rintro e w' ⟨rfl, rfl⟩)
          | (go_at_call 100; refine (rd_take_word (H.out.drewN _) q1 q2 q3).mono ?_; rintro e w1 ⟨rfl, hx, hr⟩)
        go_ret
        exact ⟨rfl, ((Ext.refl _ w).drewN _).trans hx, hr⟩

end Go.Proofs.YtihpglkehkgioaaGreatDoor

/- The program: what a number is. -/
namespace Go.Proofs.YtihpglkehkgioaaGreatDoor
open Go.RowKit Ar

theorem ex01 (s : ByteArray) (h : 0 < s.size) : (s.extract 0 1).toList = [s[0]] := by
  rw [Lib.extract_toList, ← ByteArray.toList_eq]
  have h3 := head_at s h
  cases hl : s.toList with
  | nil => rw [hl] at h3; exact absurd h3 (by simp)
  | cons c r => rw [hl] at h3; simp at h3; simp [h3]

theorem minus_tail (s : ByteArray) : (s.extract 1 s.size).toList = s.toList.tail := by
  rw [Lib.extract_toList, ← ByteArray.toList_eq, List.take_of_length_le (by rw [List.length_drop, len_toList]; omega)]
  cases s.toList <;> rfl

set_option maxHeartbeats 400000 in
theorem gCutMinus (s : ByteArray) (w : World) (hs : s.size ≤ maxLen) :
    Calls Tryz.prog 136 #[.string s, .string ⟨#[45]⟩] w fun e w' => ∃ X : ByteArray, e = .returned (.tuple #[.string X, .bool (decide (s.toList.head? = some 45))]) ∧ X.toList = unMinus s.toList ∧ X.size ≤ s.size ∧ w = w' := by
  unfold maxLen at hs
  have g1 : (ByteArray.mk #[45]).size = 1 := rfl
  by_cases h0 : 0 < s.size
  · have h3 := head_at s h0
    cases hq : (s[0] == 45) with
    | true =>
      have e0 : s[0] = 45 := beq_iff_eq.1 hq
      have hx : ((s.extract 0 1).toList == [45]) = true := by rw [ex01 s h0, e0]; rfl
      have HD : Hid (decide (s.toList.head? = some 45) = true) := by show _ = _; rw [h3, e0]; rfl
      have HU : Hid (unMinus s.toList = s.toList.tail) := by show _ = _; rw [unMinus, if_pos (by rw [h3, e0])]
      clear h3 hq e0
      go_enter Tryz.func136, Tryz.ntmps136
      go_wp2
      go_ret2
      rw [HD.out, HU.out]
      exact ⟨s.extract 1 s.size, rfl, minus_tail s, by rw [← len_toList, minus_tail s, List.length_tail, len_toList]; omega, rfl⟩
    | false =>
      have e0 : ¬ s[0] = 45 := by simpa using hq
      have hx : ((s.extract 0 1).toList == [45]) = false := by
        rw [ex01 s h0]
        cases h : ([s[0]] == [45]) with
        | false => rfl
        | true => exact absurd (by simpa using h) e0
      have hne : ¬ s.toList.head? = some 45 := by rw [h3]; simpa using e0
      have HD : Hid (decide (s.toList.head? = some 45) = false) := by show _ = _; simpa using hne
      have HU : Hid (unMinus s.toList = s.toList) := by show _ = _; rw [unMinus, if_neg hne]
      clear h3 hq e0 hne
      go_enter Tryz.func136, Tryz.ntmps136
      go_wp2
      go_ret2
      rw [HD.out, HU.out]
      exact ⟨s, rfl, rfl, Nat.le_refl _, rfl⟩
  · have hl : s.toList = [] := List.eq_nil_of_length_eq_zero (by rw [len_toList]; omega)
    have HD : Hid (decide (s.toList.head? = some 45) = false) := by show _ = _; rw [hl]; rfl
    have HU : Hid (unMinus s.toList = s.toList) := by show _ = _; rw [hl]; rfl
    clear hl
    go_enter Tryz.func136, Tryz.ntmps136
    go_wp2
    go_ret2
    rw [HD.out, HU.out]
    exact ⟨s, rfl, rfl, Nat.le_refl _, rfl⟩

set_option maxHeartbeats 400000 in
theorem gValueOf (s : ByteArray) (w : World) (hs : s.size ≤ maxLen) (hd : s.toList.all digit = true) :
    Calls Tryz.prog 137 #[.string s] w fun e w' => e = .returned (.int .i64 (val s.toList)) ∧ w = w' := by
  unfold maxLen at hs
  have HD := hide hd
  clear hd
  go_enter Tryz.func137, Tryz.ntmps137
  go_wp2_with fail
  go_loop [3, 7] (fun n i => ∃ k : Nat, k ≤ s.size ∧ i = .int .i64 k ∧ n = .int .i64 (val (s.toList.take k))) (fun _ i => s.size - (intOf i).toNat)
  case atStart => exact ⟨0, Nat.zero_le _, rfl, rfl⟩
  case round =>
    obtain ⟨k, hk, rfl, rfl⟩ := hrel
    have hall : (s.toList.take k).all digit = true := by
      cases hq : (s.toList.take k).all digit with
      | true => rfl
      | false => have := all_false_of_take hq; rw [HD.out] at this; exact absurd this (by decide)
    have hb := val_bd _ hall
    clear hall
    by_cases hlt : k < s.size
    · have HV : Hid (val (s.toList.take (k + 1)) = min (val (s.toList.take k) * 10 + ((s[k].toNat : Int) - 48)) 1001) := val_snoc s k hlt
      have hdk : 48 ≤ (s[k].toNat : Int) ∧ (s[k].toNat : Int) ≤ 57 := by
        cases hq : digit s[k] with
        | true => simpa [digit] using hq
        | false => have := all_false_at s digit k hlt hq; rw [HD.out] at this; exact absurd this (by decide)
      obtain ⟨hd1, hd2⟩ := hdk
      go_wp2_with fail
      refine ⟨⟨k + 1, by omega, by go_num, congrArg (Value.int .i64) ?_⟩, by simp [intOf]; omega⟩
      rw [HV.out]
      split <;> omega
    · go_wp2_with fail
      go_ret
      rw [toList_whole s k (by omega)]
      exact ⟨rfl, rfl⟩

set_option maxHeartbeats 400000 in
theorem gReadNumber (s : ByteArray) (w : World) (hs : s.size ≤ maxLen) :
    Calls Tryz.prog 130 #[.string s] w fun e w' => e = .returned (.tuple #[.int .i64 ((numOf s.toList).getD 0), .bool (numOf s.toList).isSome]) ∧ w = w' := by
  obtain ⟨m, hm⟩ : ∃ m, decide (s.toList.head? = some 45) = m := ⟨_, rfl⟩
  have HC : Hid (∀ w, Calls Tryz.prog 136 #[.string s, .string ⟨#[45]⟩] w fun e w' => ∃ X : ByteArray, e = .returned (.tuple #[.string X, .bool m]) ∧ X.toList = unMinus s.toList ∧ X.size ≤ s.size ∧ w = w') := by
    intro w; have := gCutMinus s w hs; rw [hm] at this; exact this
  have HN : Hid (numOf s.toList = if unMinus s.toList = [] ∨ (unMinus s.toList).all digit = false ∨ ((unMinus s.toList).head? = some 48 ∧ s.toList ≠ [48]) then none else some (if m = true then - val (unMinus s.toList) else val (unMinus s.toList))) := by
    show _ = _
    rw [numOf, ← hm]
    simp
  have HM := hide hm
  have HS := hide hs
  unfold maxLen at hs
  clear hm
  go_enter Tryz.func130, Tryz.ntmps130
  go_wp2_with fail
  refine (HC.out _).mono ?_
  rintro e w' ⟨X, rfl, hX, hXs, rfl⟩
  rw [← hX] at HN
  have HX := hide hX
  clear hX HC
  have hXm : X.size ≤ maxLen := Nat.le_trans hXs HS.out
  have HA := hide (gAllWithin X 48 57)
  cases hem : X.toList.isEmpty with
  | true =>
    go_wp2_with fail
    go_ret2
    refine ⟨res_none ?_, rfl⟩
    rw [HN.out, if_pos (Or.inl (by simpa using hem))]
  | false =>
    have hpos : 0 < X.size := by
      cases h : X.size with
      | zero =>
        have := len_toList X
        rw [h] at this
        rw [List.eq_nil_of_length_eq_zero this] at hem
        exact absurd hem (by decide)
      | succ => omega
    cases hall : X.toList.all digit with
    | false =>
      have HA2 : Hid (∀ w, Calls Tryz.prog 94 #[.string X, .int .u8 48, .int .u8 57] w fun e w' => e = .returned (.bool false) ∧ w = w') := by
        intro w; have h1 := HA.out w hXm; rw [show X.toList.all (inB 48 57) = false from hall] at h1; exact h1
      have HALL := hide hall
      clear hall HA
      go_wp2_with (go_at_call 94; refine (HA2.out _).mono ?_; rintro e w' ⟨rfl, rfl⟩)
      go_ret2
      refine ⟨res_none ?_, rfl⟩
      rw [HN.out, if_pos (Or.inr (Or.inl HALL.out))]
    | true =>
      have HA2 : Hid (∀ w, Calls Tryz.prog 94 #[.string X, .int .u8 48, .int .u8 57] w fun e w' => e = .returned (.bool true) ∧ w = w') := by
        intro w; have h1 := HA.out w hXm; rw [show X.toList.all (inB 48 57) = true from hall] at h1; exact h1
      have HALL := hide hall
      have HH := hide (head_at X hpos)
      have hb := val_bd X.toList hall
      have HVO := hide (fun w => gValueOf X w hXm hall)
      clear hall HA
      have fin : (¬ (X.toList.head? = some 48 ∧ s.toList ≠ [48])) → numOf s.toList = some (if m = true then - val X.toList else val X.toList) := by
        intro hn
        rw [HN.out, if_neg]
        rintro (e | e | e)
        · rw [e] at hem; exact absurd hem (by decide)
        · rw [HALL.out] at e; exact absurd e (by decide)
        · exact hn e
      have FIN := hide fin
      clear fin
      cases h48 : ((X[0].toNat : Int) == 48) with
      | true =>
        have HEQ : Hid (X.toList.head? = some 48) := by
          show _ = _
          rw [HH.out, u8_of_int (c := X[0]) (n := 48) (by omega) (by simpa using h48)]; rfl
        cases hw : (s.toList == [48]) with
        | false =>
          go_wp2_with (go_at_call 94; refine (HA2.out _).mono ?_; rintro e w' ⟨rfl, rfl⟩)
          go_ret2
          refine ⟨res_none ?_, rfl⟩
          rw [HN.out, if_pos (Or.inr (Or.inr ⟨HEQ.out, by simpa using hw⟩))]
        | true =>
          have HF := hide (FIN.out (fun h => h.2 (beq_iff_eq.1 hw)))
          cases m with
          | true =>
            go_wp2_with first
              | (go_at_call 94; refine (HA2.out _).mono ?_; rintro e w' ⟨rfl, rfl⟩)
              | (go_at_call 137; refine (HVO.out _).mono ?_; rintro e w' ⟨rfl, rfl⟩)
            go_ret2
            exact ⟨res_some HF.out, rfl⟩
          | false =>
            go_wp2_with first
              | (go_at_call 94; refine (HA2.out _).mono ?_; rintro e w' ⟨rfl, rfl⟩)
              | (go_at_call 137; refine (HVO.out _).mono ?_; rintro e w' ⟨rfl, rfl⟩)
            go_ret2
            exact ⟨res_some HF.out, rfl⟩
      | false =>
        have HF := hide (FIN.out (fun h => by have h1 := h.1; rw [HH.out] at h1; rw [Option.some.inj h1] at h48; exact absurd h48 (by decide)))
        cases m with
        | true =>
          go_wp2_with first
            | (go_at_call 94; refine (HA2.out _).mono ?_; rintro e w' ⟨rfl, rfl⟩)
            | (go_at_call 137; refine (HVO.out _).mono ?_; rintro e w' ⟨rfl, rfl⟩)
          go_ret2
          exact ⟨res_some HF.out, rfl⟩
        | false =>
          go_wp2_with first
            | (go_at_call 94; refine (HA2.out _).mono ?_; rintro e w' ⟨rfl, rfl⟩)
            | (go_at_call 137; refine (HVO.out _).mono ?_; rintro e w' ⟨rfl, rfl⟩)
          go_ret2
          exact ⟨res_some HF.out, rfl⟩

end Go.Proofs.YtihpglkehkgioaaGreatDoor
