/- Small leaf functions: what each call gives, in every world; The document's own answer: what a name is; The program: what is a blank, a bracket, within bounds, a name; The document's own answer: what a number is; The reader of the document's own answer in memory: its block, the tokens' block, the names' block; A number's text is its one form; The program: what a number is. -/
import Derived.Test.YtegbdaffhpiacaaGreatDoorProg
import Derived.Test.YtegbdaffhpiacaaGreatDoorOwn03
/- Small leaf functions: what each call gives, in every world. -/
namespace Go.Proofs.YtegbdaffhpiacaaGreatDoor
open Go.RowKit Ar

set_option maxHeartbeats 400000 in
theorem num_any (a : Int) (w : World) :
    Calls Tryz.prog 80 #[.int .i64 a] w fun e w' => e = .returned (.int .i64 a) ∧ w' = w := by
  go_enter Tryz.func80, Tryz.ntmps80
  go_wp2
  go_ret
  exact ⟨rfl, rfl⟩

theorem bl_int (c : UInt8) : ((c.toNat : Int) == 32 || (c.toNat : Int) == 9 || (c.toNat : Int) == 10) = isBl c := by
  have h : ∀ (n : Nat) (k : Int), (n : Int) = k → n < 256 → ((c.toNat : Int) == k) = (c == UInt8.ofNat n) := by
    intro n k hk hn
    subst hk
    rw [Bool.eq_iff_iff]
    simp only [beq_iff_eq]
    constructor
    · intro e
      apply UInt8.toNat_inj.1
      rw [UInt8.toNat_ofNat']
      omega
    · intro e
      rw [e, UInt8.toNat_ofNat']
      omega
  unfold isBl
  rw [h 32 32 rfl (by omega), h 9 9 rfl (by omega), h 10 10 rfl (by omega)]
  rfl

set_option maxHeartbeats 400000 in
theorem blank_any (c : UInt8) (w : World) :
    Calls Tryz.prog 195 #[.int .u8 c.toNat] w fun e w' => e = .returned (.bool (isBl c)) ∧ w' = w := by
  rw [← bl_int]
  go_enter Tryz.func195, Tryz.ntmps195
  go_wp2
  all_goals
    go_ret
    refine ⟨?_, rfl⟩
    first
      | rfl
      | (apply ret_bool; simp_all; done)

end Go.Proofs.YtegbdaffhpiacaaGreatDoor

/- The document's own answer: what a name is. -/
namespace Go.Proofs.YtegbdaffhpiacaaGreatDoor
open Go.RowKit Ar

theorem name_no (l : List UInt8) (h : l.all letter = false) : isName l = false := by simp [isName, h]

theorem name_yes (l : List UInt8) (n : Nat) (hn : l.length = n) (h : l.all letter = true) (hw : isWord l = false) (h1 : 1 ≤ (n : Int)) : decide ((n : Int) ≤ 8) = isName l := by
  have h2 : 1 ≤ l.length := by omega
  simp only [isName, h, hw, h2]
  rw [Bool.eq_iff_iff]; simp; omega

theorem name_short (l : List UInt8) (n : Nat) (hn : l.length = n) (h1 : (n : Int) < 1) : false = isName l := by
  have h2 : ¬ 1 ≤ l.length := by omega
  simp [isName, h2]

set_option maxHeartbeats 1000000 in
theorem isName_any (s : ByteArray) (w : World) (hs : s.size ≤ maxLen) :
    Calls Tryz.prog 118 #[.string s] w fun e w' => e = .returned (.bool (isName s.toList)) ∧ w' = w := by
  unfold maxLen at hs
  go_enter Tryz.func118, Tryz.ntmps118
  go_wp2
  go_loop [3] (fun i => ∃ k : Nat, k ≤ s.size ∧ i = .int .i64 k ∧ (s.toList.take k).all letter = true) (fun i => s.size - (intOf i).toNat)
  case atStart => exact ⟨0, Nat.zero_le _, rfl, rfl⟩
  case round =>
    obtain ⟨k, hk, rfl, ha⟩ := hrel
    have HA : Hid ((s.toList.take k).all letter = true) := ha
    clear ha
    by_cases hlt : k < s.size
    · go_wp2
      case roundEnd => exact ⟨⟨k + 1, by omega, by go_num, all_true_snoc s letter k hlt HA.out (by simp [letter]; omega)⟩, by simp [intOf]; omega⟩
      all_goals
        go_ret
        exact ⟨ret_bool (name_no _ (all_false_at s letter k hlt (by simp [letter]; omega))).symm, rfl⟩
    · have HL : Hid (s.toList.all letter = true) := by
        have h1 := HA.out
        rw [toList_whole s k (by omega)] at h1
        exact h1
      have HZ : Hid (s.toList.length = s.size) := len_toList s
      clear HA
      go_wp2
      all_goals
        go_ret
        refine ⟨ret_bool ?_, rfl⟩
        first
          | decide
          | (have h1 := HL.out; have h2 := HZ.out; simp_all [isName, isWord, wTrue, wFalse, wNot, wAnd, wOr, wIff, wLe]; done)
          | (refine name_short _ _ HZ.out ?_; assumption)
          | (refine name_yes _ _ HZ.out HL.out ?_ ?_; simp_all [isWord, wTrue, wFalse, wNot, wAnd, wOr, wIff, wLe]; assumption)

end Go.Proofs.YtegbdaffhpiacaaGreatDoor

/- The program: what is a blank, a bracket, within bounds, a name. -/
namespace Go.Proofs.YtegbdaffhpiacaaGreatDoor
open Go.RowKit Ar

set_option maxHeartbeats 400000 in
theorem gIsBlank (c : UInt8) (w : World) :
    Calls Tryz.prog 142 #[.int .u8 c.toNat] w fun e w' => e = .returned (.bool (isBl c)) ∧ w = w' := by
  rw [← bl_int]
  go_enter Tryz.func142, Tryz.ntmps142
  go_wp2
  all_goals
    go_ret
    refine ⟨?_, rfl⟩
    first
      | rfl
      | (apply ret_bool; simp_all; done)

theorem br_int (c : UInt8) : ((c.toNat : Int) == 40 || (c.toNat : Int) == 41) = isBr c := by
  have h : ∀ (n : Nat) (k : Int), (n : Int) = k → n < 256 → ((c.toNat : Int) == k) = (c == UInt8.ofNat n) := by
    intro n k hk hn
    subst hk
    rw [Bool.eq_iff_iff]
    simp only [beq_iff_eq]
    constructor
    · intro e
      apply UInt8.toNat_inj.1
      rw [UInt8.toNat_ofNat']
      omega
    · intro e
      rw [e, UInt8.toNat_ofNat']
      omega
  unfold isBr
  rw [h 40 40 rfl (by omega), h 41 41 rfl (by omega)]
  rfl

set_option maxHeartbeats 400000 in
theorem gIsBracket (c : UInt8) (w : World) :
    Calls Tryz.prog 184 #[.int .u8 c.toNat] w fun e w' => e = .returned (.bool (isBr c)) ∧ w = w' := by
  rw [← br_int]
  go_enter Tryz.func184, Tryz.ntmps184
  go_wp2
  all_goals
    go_ret
    refine ⟨?_, rfl⟩
    first
      | rfl
      | (apply ret_bool; simp_all; done)

set_option maxHeartbeats 400000 in
theorem gWithinInt (n lo hi : Int) (w : World) :
    Calls Tryz.prog 68 #[.int .i64 n, .int .i64 lo, .int .i64 hi] w fun e w' => e = .returned (.bool (decide (lo ≤ n ∧ n ≤ hi))) ∧ w = w' := by
  by_cases h1 : lo ≤ n
  · go_enter Tryz.func68, Tryz.ntmps68
    go_wp2
    go_ret
    exact ⟨ret_bool (by simp [h1]), rfl⟩
  · go_enter Tryz.func68, Tryz.ntmps68
    go_wp2
    go_ret
    exact ⟨ret_bool (by simp; omega), rfl⟩

set_option maxHeartbeats 400000 in
theorem gWithinByte (n lo hi : Int) (w : World) :
    Calls Tryz.prog 141 #[.int .u8 n, .int .u8 lo, .int .u8 hi] w fun e w' => e = .returned (.bool (decide (lo ≤ n ∧ n ≤ hi))) ∧ w = w' := by
  by_cases h1 : lo ≤ n
  · go_enter Tryz.func141, Tryz.ntmps141
    go_wp2
    go_ret
    exact ⟨ret_bool (by simp [h1]), rfl⟩
  · go_enter Tryz.func141, Tryz.ntmps141
    go_wp2
    go_ret
    exact ⟨ret_bool (by simp; omega), rfl⟩

def inB (lo hi : Int) (c : UInt8) : Bool := decide (lo ≤ (c.toNat : Int) ∧ (c.toNat : Int) ≤ hi)

set_option maxHeartbeats 400000 in
theorem gAllWithin (s : ByteArray) (lo hi : Int) (w : World) (hs : s.size ≤ maxLen) :
    Calls Tryz.prog 102 #[.string s, .int .u8 lo, .int .u8 hi] w fun e w' => e = .returned (.bool (s.toList.all (inB lo hi))) ∧ w = w' := by
  unfold maxLen at hs
  go_enter Tryz.func102, Tryz.ntmps102
  go_wp2_with fail
  go_loop [10] (fun i => ∃ k : Nat, k ≤ s.size ∧ i = .int .i64 k ∧ (s.toList.take k).all (inB lo hi) = true) (fun i => s.size - (intOf i).toNat)
  case atStart => exact ⟨0, Nat.zero_le _, rfl, rfl⟩
  case round =>
    obtain ⟨k, hk, rfl, ha⟩ := hrel
    have HA := hide ha
    clear ha
    by_cases hlt : k < s.size
    · have hw := gWithinByte s[k].toNat lo hi
      cases hq : inB lo hi s[k] with
      | true =>
        have HW : Hid (∀ w, Calls Tryz.prog 141 #[.int .u8 s[k].toNat, .int .u8 lo, .int .u8 hi] w fun e w' => e = .returned (.bool true) ∧ w = w') := by
          intro w; have h1 := hw w; rw [show decide (lo ≤ (s[k].toNat : Int) ∧ (s[k].toNat : Int) ≤ hi) = true from hq] at h1; exact h1
        have HQ := hide hq
        clear hw hq
        go_wp2_with (go_at_call 141; refine (HW.out _).mono ?_; rintro e w' ⟨rfl, rfl⟩)
        exact ⟨⟨k + 1, by omega, by go_num, all_true_snoc s _ k hlt HA.out HQ.out⟩, by simp [intOf]; omega⟩
      | false =>
        have HW : Hid (∀ w, Calls Tryz.prog 141 #[.int .u8 s[k].toNat, .int .u8 lo, .int .u8 hi] w fun e w' => e = .returned (.bool false) ∧ w = w') := by
          intro w; have h1 := hw w; rw [show decide (lo ≤ (s[k].toNat : Int) ∧ (s[k].toNat : Int) ≤ hi) = false from hq] at h1; exact h1
        have HQ := hide hq
        clear hw hq
        go_wp2_with (go_at_call 141; refine (HW.out _).mono ?_; rintro e w' ⟨rfl, rfl⟩)
        go_ret
        exact ⟨ret_bool (all_false_at s _ k hlt HQ.out).symm, rfl⟩
    · go_wp2_with fail
      go_ret
      have h1 := HA.out
      rw [toList_whole s k (by omega)] at h1
      exact ⟨ret_bool h1.symm, rfl⟩

set_option maxHeartbeats 1000000 in
theorem gIsReserved (s : ByteArray) (w : World) :
    Calls Tryz.prog 103 #[.string s] w fun e w' => e = .returned (.bool (isWord s.toList)) ∧ w = w' := by
  go_enter Tryz.func103, Tryz.ntmps103
  go_wp2
  all_goals
    go_ret
    refine ⟨ret_bool ?_, rfl⟩
    simp_all [isWord, wTrue, wFalse, wNot, wAnd, wOr, wIff, wLe]

theorem name_parts (s : ByteArray) : isName s.toList = (decide (1 ≤ (s.size : Int) ∧ (s.size : Int) ≤ 8) && s.toList.all (inB 97 122) && !isWord s.toList) := by
  unfold isName
  have e1 : s.toList.all letter = s.toList.all (inB 97 122) := rfl
  rw [e1, len_toList]
  have e2 : (decide (1 ≤ s.size) && decide (s.size ≤ 8)) = decide (1 ≤ (s.size : Int) ∧ (s.size : Int) ≤ 8) := by
    rw [Bool.eq_iff_iff]; simp; omega
  rw [e2]
  cases s.toList.all (inB 97 122) <;> cases isWord s.toList <;> simp

set_option maxHeartbeats 400000 in
theorem gIs (s : ByteArray) (w : World) (hs : s.size ≤ maxLen) :
    Calls Tryz.prog 67 #[.string s] w fun e w' => e = .returned (.bool (isName s.toList)) ∧ w = w' := by
  have h1 := gWithinInt s.size 1 8
  have h2 := gAllWithin s 97 122
  have h3 := gIsReserved s
  rw [name_parts]
  generalize decide (1 ≤ (s.size : Int) ∧ (s.size : Int) ≤ 8) = b1 at *
  generalize s.toList.all (inB 97 122) = b2 at *
  generalize isWord s.toList = b3 at *
  have H1 := hide h1
  have H2 := hide h2
  have H3 := hide h3
  have HS := hide hs
  unfold maxLen at hs
  clear h1 h2 h3
  cases b1 <;> cases b2 <;> cases b3
  all_goals
    go_enter Tryz.func67, Tryz.ntmps67
    go_wp2_with first
      | (go_at_call 68; refine (H1.out _).mono ?_; rintro e w' ⟨rfl, rfl⟩)
      | (go_at_call 102; refine (H2.out _ HS.out).mono ?_; rintro e w' ⟨rfl, rfl⟩)
      | (go_at_call 103; refine (H3.out _).mono ?_; rintro e w' ⟨rfl, rfl⟩)
    go_ret
    exact ⟨rfl, rfl⟩

end Go.Proofs.YtegbdaffhpiacaaGreatDoor

/- The document's own answer: what a number is. -/
namespace Go.Proofs.YtegbdaffhpiacaaGreatDoor
open Go.RowKit Ar

theorem val_snoc (s : ByteArray) (k : Nat) (h : k < s.size) : val (s.toList.take (k + 1)) = min (val (s.toList.take k) * 10 + ((s[k].toNat : Int) - 48)) 1001 := by
  rw [toList_snoc s k h, val, List.foldl_append]; rfl

theorem val_bd (l : List UInt8) (h : l.all digit = true) : 0 ≤ val l ∧ val l ≤ 1001 := by
  unfold val
  have key : ∀ (l : List UInt8) (v : Int), l.all digit = true → 0 ≤ v → v ≤ 1001 → 0 ≤ l.foldl (fun v c => min (v * 10 + ((c.toNat : Int) - 48)) 1001) v ∧ l.foldl (fun v c => min (v * 10 + ((c.toNat : Int) - 48)) 1001) v ≤ 1001 := by
    intro l
    induction l with
    | nil => intro v _ h0 h1; exact ⟨h0, h1⟩
    | cons c r ih =>
      intro v hd h0 h1
      simp only [List.all_cons, Bool.and_eq_true] at hd
      obtain ⟨hc, hr⟩ := hd
      simp [digit] at hc
      exact ih _ hr (by show 0 ≤ min (v * 10 + ((c.toNat : Int) - 48)) 1001; omega) (by show min (v * 10 + ((c.toNat : Int) - 48)) 1001 ≤ 1001; omega)
  exact key l 0 h (by omega) (by omega)

theorem head_at (s : ByteArray) (h : 0 < s.size) : s.toList.head? = some s[0] := by
  have e := toList_snoc s 0 h
  rw [List.take_zero, List.nil_append] at e
  cases hl : s.toList with
  | nil => have := len_toList s; rw [hl] at this; simp at this; omega
  | cons c r => rw [hl] at e; simpa using e

theorem u8_of_int {c : UInt8} {n : Nat} (hn : n < 256) (h : (c.toNat : Int) = n) : c = UInt8.ofNat n := by
  apply UInt8.toNat_inj.1
  rw [UInt8.toNat_ofNat']
  omega

theorem num_plain (l : List UInt8) (h : l.head? ≠ some 45) : numOf l = if l = [] ∨ l.all digit = false ∨ (l.head? = some 48 ∧ l ≠ [48]) then none else some (val l) := by
  simp only [numOf, unMinus, if_neg h]

theorem num_minus (x : List UInt8) : numOf (45 :: x) = if x = [] ∨ x.all digit = false ∨ x.head? = some 48 then none else some (- val x) := by
  simp [numOf, unMinus]

theorem res2 {a b : Int} {x y : Bool} (h : a = b) (k : x = y) : Ending.returned (.tuple #[.int .i64 a, .bool x]) = .returned (.tuple #[.int .i64 b, .bool y]) := by rw [h, k]

theorem res_none {l : List UInt8} (h : numOf l = none) : Ending.returned (.tuple #[.int .i64 0, .bool false]) = .returned (.tuple #[.int .i64 ((numOf l).getD 0), .bool (numOf l).isSome]) := by rw [h]; rfl
theorem res_some {l : List UInt8} {v : Int} (h : numOf l = some v) : Ending.returned (.tuple #[.int .i64 v, .bool true]) = .returned (.tuple #[.int .i64 ((numOf l).getD 0), .bool (numOf l).isSome]) := by rw [h]; rfl

set_option maxHeartbeats 1000000 in
theorem number_empty (s : ByteArray) (w : World) (h0 : s.size = 0) :
    Calls Tryz.prog 170 #[.string s] w fun e w' => e = .returned (.tuple #[.int .i64 ((numOf s.toList).getD 0), .bool (numOf s.toList).isSome]) ∧ w' = w := by
  obtain rfl : s = ByteArray.empty := bytes_ext ((List.eq_nil_of_length_eq_zero (by rw [len_toList]; exact h0)).trans (by rw [ByteArray.toList_eq]; rfl))
  go_enter Tryz.func170, Tryz.ntmps170
  go_wp2
  go_loop [5, 6] (fun n i => n = .int .i64 0 ∧ i = .int .i64 0) (fun _ _ => 0)
  case atStart => exact ⟨rfl, rfl⟩
  case round =>
    obtain ⟨rfl, rfl⟩ := hrel
    go_wp2
    go_ret2
    exact ⟨rfl, rfl⟩

set_option maxHeartbeats 1000000 in
theorem number_plain (s : ByteArray) (w : World) (hs : s.size ≤ maxLen) (h0 : 0 < s.size) (hm : ((s[0].toNat : Int) == 45) = false) :
    Calls Tryz.prog 170 #[.string s] w fun e w' => e = .returned (.tuple #[.int .i64 ((numOf s.toList).getD 0), .bool (numOf s.toList).isSome]) ∧ w' = w := by
  unfold maxLen at hs
  have HP : Hid (numOf s.toList = if s.toList = [] ∨ s.toList.all digit = false ∨ (s.toList.head? = some 48 ∧ s.toList ≠ [48]) then none else some (val s.toList)) := by
    apply num_plain
    rw [head_at s h0]
    intro e
    rw [Option.some.inj e] at hm
    exact absurd hm (by decide)
  have he : s.toList.isEmpty = false := by
    cases h : s.toList with
    | nil => have := len_toList s; rw [h] at this; simp at this; omega
    | cons => rfl
  have HZ : Hid (s.toList.length = s.size) := len_toList s
  go_enter Tryz.func170, Tryz.ntmps170
  go_wp2
  go_loop [5, 6] (fun n i => ∃ k : Nat, k ≤ s.size ∧ i = .int .i64 k ∧ (s.toList.take k).all digit = true ∧ n = .int .i64 (val (s.toList.take k))) (fun _ i => s.size - (intOf i).toNat)
  case atStart => exact ⟨0, Nat.zero_le _, rfl, rfl, rfl⟩
  case round =>
    obtain ⟨k, hk, rfl, ha, rfl⟩ := hrel
    have hb := val_bd _ ha
    have HA : Hid ((s.toList.take k).all digit = true) := ha
    clear ha
    by_cases hlt : k < s.size
    · have HV : Hid (val (s.toList.take (k + 1)) = min (val (s.toList.take k) * 10 + ((s[k].toNat : Int) - 48)) 1001) := val_snoc s k hlt
      go_wp2
      all_goals first
        | (go_ret2
           refine ⟨res_none ?_, rfl⟩
           rw [HP.out, if_pos]
           exact Or.inr (Or.inl (all_false_at s digit k hlt (by simp [digit]; omega))))
        | (refine ⟨⟨k + 1, by omega, by go_num, all_true_snoc s digit k hlt HA.out (by simp [digit]; omega), congrArg (Value.int .i64) ?_⟩, by simp [intOf]; omega⟩
           rw [HV.out]; omega)
    · have hw : s.toList.take k = s.toList := toList_whole s k (by omega)
      have HW : Hid (val (s.toList.take k) = val s.toList) := by rw [hw]; exact rfl
      have HD : Hid (s.toList.all digit = true) := by have := HA.out; rw [hw] at this; exact this
      have HH : Hid (s.toList.head? = some s[0]) := head_at s h0
      clear hw HA
      by_cases h48 : ((s[0].toNat : Int) == 48) = true
      · by_cases h1 : 1 < (s.size : Int)
        · go_wp2
          go_ret2
          refine ⟨res_none ?_, rfl⟩
          rw [HP.out, if_pos]
          refine Or.inr (Or.inr ⟨?_, ?_⟩)
          · rw [HH.out, u8_of_int (c := s[0]) (n := 48) (by omega) (by simpa using h48)]; rfl
          · intro e; have := HZ.out; rw [e] at this; simp at this; omega
        · go_wp2
          go_ret2
          refine ⟨(res2 HW.out rfl).trans (res_some ?_), rfl⟩
          have h2 := HZ.out
          have h3 := HH.out
          have h4 := HD.out
          rw [HP.out, if_neg]
          rintro (e | e | ⟨_, e⟩)
          · rw [e] at he; exact absurd he (by decide)
          · rw [h4] at e; exact absurd e (by decide)
          · apply e
            match hl : s.toList, h2, h3 with
            | [], h2, _ => simp at h2; omega
            | [c], _, h3 => simp at h3; rw [h3, u8_of_int (c := s[0]) (n := 48) (by omega) (by simpa using h48)]; rfl
            | _ :: _ :: _, h2, _ => simp at h2; omega
      · go_wp2
        go_ret2
        refine ⟨(res2 HW.out rfl).trans (res_some ?_), rfl⟩
        have h3 := HH.out
        have h4 := HD.out
        rw [HP.out, if_neg]
        rintro (e | e | ⟨e, _⟩)
        · rw [e] at he; exact absurd he (by decide)
        · rw [h4] at e; exact absurd e (by decide)
        · rw [h3] at e; rw [Option.some.inj e] at h48; exact h48 rfl

set_option maxHeartbeats 1000000 in
theorem number_minus (s : ByteArray) (w : World) (hs : s.size ≤ maxLen) (h0 : 0 < s.size) (hm : ((s[0].toNat : Int) == 45) = true) :
    Calls Tryz.prog 170 #[.string s] w fun e w' => e = .returned (.tuple #[.int .i64 ((numOf s.toList).getD 0), .bool (numOf s.toList).isSome]) ∧ w' = w := by
  unfold maxLen at hs
  obtain ⟨x, hx⟩ : ∃ x, s.extract 1 s.size = x := ⟨_, rfl⟩
  have hl : s.toList = 45 :: x.toList := by
    have h3 := head_at s h0
    rw [u8_of_int (c := s[0]) (n := 45) (by omega) (by simpa using hm)] at h3
    rw [← hx, Lib.extract_toList, ← ByteArray.toList_eq, List.take_of_length_le (by rw [List.length_drop, len_toList]; omega)]
    match hl : s.toList, h3 with
    | c :: r, h3 => simp at h3; rw [h3]; rfl
  have HP : Hid (numOf s.toList = if x.toList = [] ∨ x.toList.all digit = false ∨ x.toList.head? = some 48 then none else some (- val x.toList)) := by
    rw [hl]; exact num_minus _
  have HZ : Hid (x.toList.length = x.size) := len_toList x
  have hxs : x.size ≤ 2 ^ 63 - 1 := by
    have h1 := len_toList s
    have h2 := len_toList x
    rw [hl] at h1; simp at h1; omega
  have HX : Hid (s.extract 1 s.size = x) := hx
  clear hl hx
  go_enter Tryz.func170, Tryz.ntmps170
  go_wp2
  rw [HX.out]
  go_loop [5, 6] (fun n i => ∃ k : Nat, k ≤ x.size ∧ i = .int .i64 k ∧ (x.toList.take k).all digit = true ∧ n = .int .i64 (val (x.toList.take k))) (fun _ i => x.size - (intOf i).toNat)
  case atStart => exact ⟨0, Nat.zero_le _, rfl, rfl, rfl⟩
  case round =>
    obtain ⟨k, hk, rfl, ha, rfl⟩ := hrel
    have hb := val_bd _ ha
    have HA : Hid ((x.toList.take k).all digit = true) := ha
    clear ha
    by_cases hlt : k < x.size
    · have HV : Hid (val (x.toList.take (k + 1)) = min (val (x.toList.take k) * 10 + ((x[k].toNat : Int) - 48)) 1001) := val_snoc x k hlt
      go_wp2
      all_goals first
        | (go_ret2
           refine ⟨res_none ?_, rfl⟩
           rw [HP.out, if_pos]
           exact Or.inr (Or.inl (all_false_at x digit k hlt (by simp [digit]; omega))))
        | (refine ⟨⟨k + 1, by omega, by go_num, all_true_snoc x digit k hlt HA.out (by simp [digit]; omega), congrArg (Value.int .i64) ?_⟩, by simp [intOf]; omega⟩
           rw [HV.out]; omega)
    · have hw : x.toList.take k = x.toList := toList_whole x k (by omega)
      have HW : Hid (val (x.toList.take k) = val x.toList) := by rw [hw]; exact rfl
      have HD : Hid (x.toList.all digit = true) := by have := HA.out; rw [hw] at this; exact this
      clear hw HA
      by_cases hz : 0 < x.size
      · have HH : Hid (x.toList.head? = some x[0]) := head_at x hz
        have he : x.toList.isEmpty = false := by
          cases h : x.toList with
          | nil => have := HZ.out; rw [h] at this; simp at this; omega
          | cons => rfl
        by_cases h48 : ((x[0].toNat : Int) == 48) = true
        · go_wp2
          all_goals
            go_ret2
            refine ⟨res_none ?_, rfl⟩
            rw [HP.out, if_pos]
            refine Or.inr (Or.inr ?_)
            rw [HH.out, u8_of_int (c := x[0]) (n := 48) (by omega) (by simpa using h48)]; rfl
        · go_wp2
          go_ret2
          refine ⟨(res2 (by rw [HW.out]) rfl).trans (res_some ?_), rfl⟩
          have h3 := HH.out
          have h4 := HD.out
          rw [HP.out, if_neg]
          rintro (e | e | e)
          · rw [e] at he; exact absurd he (by decide)
          · rw [h4] at e; exact absurd e (by decide)
          · rw [h3] at e; rw [Option.some.inj e] at h48; exact h48 rfl
      · have he : x.toList = [] := List.eq_nil_of_length_eq_zero (by rw [HZ.out]; omega)
        have he' : x.toList.isEmpty = true := by rw [he]; rfl
        have HE : Hid (x.toList = []) := he
        clear he
        go_wp2
        go_ret2
        refine ⟨res_none ?_, rfl⟩
        rw [HP.out, if_pos]
        exact Or.inl HE.out

theorem number_any (s : ByteArray) (w : World) (hs : s.size ≤ maxLen) :
    Calls Tryz.prog 170 #[.string s] w fun e w' => e = .returned (.tuple #[.int .i64 ((numOf s.toList).getD 0), .bool (numOf s.toList).isSome]) ∧ w' = w := by
  by_cases h0 : 0 < s.size
  · by_cases hm : ((s[0].toNat : Int) == 45) = true
    · exact number_minus s w hs h0 hm
    · exact number_plain s w hs h0 (by simpa using hm)
  · exact number_empty s w (by omega)

end Go.Proofs.YtegbdaffhpiacaaGreatDoor

/- The reader of the document's own answer in memory: its block, the tokens' block, the names' block. -/
namespace Go.Proofs.YtegbdaffhpiacaaGreatDoor
open Go.RowKit Ar

/-- Where a reader's things lie: its own block, the tokens' block and capacity, the names' block and capacity; the names. -/
structure Ctx where
  rb : Nat
  tb : Nat
  n : Nat
  tc : Nat
  nb : Nat
  nc : Nat
  N : List Nm

/-- The tokens from the i-th place of block tb on. -/
def Toks (w : World) (tb : Nat) : Nat → List Tk → Prop
  | _, [] => True
  | i, t :: ts => w.cell? ⟨tb, i * 2, none⟩ = some (.int .i64 t.pos) ∧ w.cell? ⟨tb, i * 2 + 1, none⟩ = some (.string t.txt) ∧ t.txt.size ≤ 600 ∧ Toks w tb (i + 1) ts

/-- The names from the i-th place of block nb on: a name, its arity, a frame. -/
def Names (w : World) (nb : Nat) (N : List Nm) : Prop :=
  ∀ i x, N[i]? = some x → w.cell? ⟨nb, i * 3, none⟩ = some (.string x.name) ∧ w.cell? ⟨nb, i * 3 + 1, none⟩ = some (.int .i64 x.ar) ∧ 0 ≤ x.ar ∧ x.ar ≤ 3

/-- A reader that stands ahead of the tokens ts, d brackets deep, with an error (0: none) and its place. -/
structure Rd (w : World) (c : Ctx) (ts : List Tk) (d err pl : Int) : Prop where
  wf : TW ts
  dlo : 0 ≤ d
  dhi : d ≤ 30
  tbn : ¬ c.tb = c.rb
  nbn : ¬ c.nb = c.rb
  tbs : c.tb < w.heap.size
  nbs : c.nb < w.heap.size
  few : c.N.length ≤ 20
  names : Names w c.nb c.N
  here : ∃ i : Nat, i + ts.length = c.n ∧ c.n ≤ 601 ∧ Toks w c.tb i ts ∧
    w.heap[c.rb]? = some (.cells #[.slice (some ⟨c.tb, 0, none⟩) c.n c.tc, .int .i64 i, .int .i64 d, .slice (some ⟨c.nb, 0, none⟩) c.N.length c.nc, .int .i64 err, .int .i64 pl] 288)

theorem cell_of_block {w : World} {b : Nat} {cs : Array Value} {t : TypeId} (h : w.heap[b]? = some (.cells cs t)) (o : Nat) : w.cell? ⟨b, o, none⟩ = cs[o]? := by
  simp [World.cell?, h]

theorem frozen_of_block {w : World} {b : Nat} {cs : Array Value} {t : TypeId} (h : w.heap[b]? = some (.cells cs t)) (o : Nat) : w.frozen? ⟨b, o, none⟩ = false := by
  simp [World.frozen?, h]

theorem block_setCell {w : World} {b : Nat} {cs : Array Value} {t : TypeId} (h : w.heap[b]? = some (.cells cs t)) (o : Nat) (v : Value) : (w.setCell ⟨b, o, none⟩ v).heap[b]? = some (.cells (cs.setIfInBounds o v) t) := by
  simp [World.setCell, Array.getElem?_modify, h]

theorem Toks.ext {w w' : World} {S : Nat → Prop} {tb : Nat} (h : Ext S w w') (hb : tb < w.heap.size) (hS : ¬ S tb) : ∀ {ts : List Tk} {i : Nat}, Toks w tb i ts → Toks w' tb i ts
  | [], _, _ => trivial
  | _ :: _, _, ht => ⟨(h.cell (p := ⟨tb, _, none⟩) hb hS).trans ht.1, (h.cell (p := ⟨tb, _, none⟩) hb hS).trans ht.2.1, ht.2.2.1, Toks.ext h hb hS ht.2.2.2⟩

theorem Names.ext {w w' : World} {S : Nat → Prop} {nb : Nat} {N : List Nm} (h : Ext S w w') (hb : nb < w.heap.size) (hS : ¬ S nb) (hn : Names w nb N) : Names w' nb N :=
  fun i x hx => ⟨(h.cell (p := ⟨nb, _, none⟩) hb hS).trans (hn i x hx).1, (h.cell (p := ⟨nb, _, none⟩) hb hS).trans (hn i x hx).2.1, (hn i x hx).2.2⟩

end Go.Proofs.YtegbdaffhpiacaaGreatDoor

/- A number's text is its one form. -/
namespace Go.Proofs.YtegbdaffhpiacaaGreatDoor
open Ar

theorem val_app (r : List UInt8) (c : UInt8) : val (r ++ [c]) = min (val r * 10 + ((c.toNat : Int) - 48)) 1001 := by
  rw [val, List.foldl_append]; rfl

theorem dig_of {c : UInt8} (_h : 48 ≤ (c.toNat : Int)) (n : Nat) (hn : (n : Int) = (c.toNat : Int) - 48) : dig n = c := by
  unfold dig
  have e : 48 + n = c.toNat := by omega
  rw [e]; simp

theorem val_pos (r : List UInt8) (hd : r.all digit = true) (hne : r ≠ []) (hz : r.head? ≠ some 48) : 1 ≤ val r := by
  obtain ⟨c, q, rfl⟩ : ∃ c q, r = c :: q := by
    cases r with
    | nil => exact absurd rfl hne
    | cons c q => exact ⟨c, q, rfl⟩
  simp only [List.all_cons, Bool.and_eq_true] at hd
  obtain ⟨hc, hq⟩ := hd
  have hc48 : ¬ (c.toNat : Int) = 48 := by
    intro e
    apply hz
    rw [u8_of_int (c := c) (n := 48) (by omega) e]; rfl
  simp [digit] at hc
  have key : ∀ (l : List UInt8) (v : Int), l.all digit = true → 1 ≤ v → 1 ≤ l.foldl (fun v c => min (v * 10 + ((c.toNat : Int) - 48)) 1001) v := by
    intro l
    induction l with
    | nil => intro v _ h; exact h
    | cons x l ih =>
      intro v hd h
      simp only [List.all_cons, Bool.and_eq_true] at hd
      obtain ⟨hx, hl⟩ := hd
      simp [digit] at hx
      exact ih _ hl (by show 1 ≤ min (v * 10 + ((x.toNat : Int) - 48)) 1001; omega)
  unfold val
  exact key q _ hq (by show 1 ≤ min (0 * 10 + ((c.toNat : Int) - 48)) 1001; omega)

theorem itoaN_val (f : Nat) : ∀ r : List UInt8, r.all digit = true → r ≠ [] → (r.head? = some 48 → r = [48]) → val r ≤ 1000 → val r < 10 ^ (f + 1) → itoaN f (val r).toNat = r := by
  induction f with
  | zero =>
    intro r hd hne hz h1 hp
    rcases List.eq_nil_or_concat r with rfl | ⟨q, c, rfl⟩
    · exact absurd rfl hne
    · rw [List.concat_eq_append] at *
      rw [List.all_append, Bool.and_eq_true] at hd
      obtain ⟨hq, hc⟩ := hd
      simp [digit] at hc
      have hb := val_bd q hq
      rw [val_app] at h1 hp ⊢
      by_cases hqe : q = []
      · subst hqe
        have e0 : val [] = 0 := rfl
        rw [e0] at *
        rw [itoaN, dig_of (c := c) (by omega) _ (by omega)]; rfl
      · have hqz : q.head? ≠ some 48 := by
          intro e
          have := hz (by rw [List.head?_append, e]; rfl)
          cases q with
          | nil => exact hqe rfl
          | cons a b => simp at this
        have := val_pos q hq hqe hqz
        simp at hp
        omega
  | succ f ih =>
    intro r hd hne hz h1 hp
    rcases List.eq_nil_or_concat r with rfl | ⟨q, c, rfl⟩
    · exact absurd rfl hne
    · rw [List.concat_eq_append] at *
      rw [List.all_append, Bool.and_eq_true] at hd
      obtain ⟨hq, hc⟩ := hd
      simp [digit] at hc
      have hb := val_bd q hq
      rw [val_app] at h1 hp ⊢
      by_cases hqe : q = []
      · subst hqe
        have e0 : val [] = 0 := rfl
        rw [e0] at *
        rw [itoaN, if_pos (by omega), dig_of (c := c) (by omega) _ (by omega)]; rfl
      · have hqz : q.head? ≠ some 48 := by
          intro e
          have := hz (by rw [List.head?_append, e]; rfl)
          cases q with
          | nil => exact hqe rfl
          | cons a b => simp at this
        have hpos := val_pos q hq hqe hqz
        have hv : min (val q * 10 + ((c.toNat : Int) - 48)) 1001 = val q * 10 + ((c.toNat : Int) - 48) := by omega
        rw [hv] at h1 hp ⊢
        have hp2 : val q < 10 ^ (f + 1) := by
          rw [Int.pow_succ] at hp
          omega
        have e := ih q hq hqe (fun e => absurd e hqz) (by omega) hp2
        have d1 : (val q * 10 + ((c.toNat : Int) - 48)).toNat / 10 = (val q).toNat := by omega
        rw [itoaN, if_neg (by omega), d1, e, dig_of (c := c) (by omega) _ (by omega)]

theorem num_text {l : List UInt8} {v : Int} (h : numOf l = some v) (h1 : -1000 ≤ v) (h2 : v ≤ 1000) : itoa v = l := by
  unfold numOf at h
  split at h
  · exact absurd h (by simp)
  · rename_i hc
    have hd : (unMinus l).all digit = true := by
      cases hq : (unMinus l).all digit with
      | true => rfl
      | false => exact absurd (Or.inr (Or.inl hq)) hc
    have hne : unMinus l ≠ [] := fun e => hc (Or.inl e)
    have hz : (unMinus l).head? = some 48 → l = [48] := by
      intro e
      cases hq : decide (l = [48]) with
      | true => exact of_decide_eq_true hq
      | false => exact absurd (Or.inr (Or.inr ⟨e, of_decide_eq_false hq⟩)) hc
    have hb := val_bd _ hd
    by_cases hm : l.head? = some 45
    · rw [if_pos hm] at h
      have hv := Option.some.inj h
      have hu : unMinus l = l.tail := by rw [unMinus, if_pos hm]
      have hz2 : (unMinus l).head? ≠ some 48 := by
        intro e; rw [hz e] at hm; exact absurd hm (by decide)
      have hpos := val_pos _ hd hne hz2
      rw [itoa, if_pos (by omega)]
      have e1 : (-v).toNat = (val (unMinus l)).toNat := by omega
      rw [e1, itoaN_val 3 _ hd hne (fun e => absurd e hz2) (by omega) (by omega), hu]
      cases l with
      | nil => exact absurd hm (by simp)
      | cons a b => simp at hm; rw [hm]; rfl
    · rw [if_neg hm] at h
      have hv := Option.some.inj h
      have hu : unMinus l = l := by rw [unMinus, if_neg hm]
      rw [hu] at hd hne hz hb hv
      rw [itoa, if_neg (by omega), ← hv, itoaN_val 3 _ hd hne hz (by omega) (by omega)]

end Go.Proofs.YtegbdaffhpiacaaGreatDoor

/- The program: what a number is. -/
namespace Go.Proofs.YtegbdaffhpiacaaGreatDoor
open Go.RowKit Ar

theorem ex01 (s : ByteArray) (h : 0 < s.size) : (s.extract 0 1).toList = [s[0]] := by
  rw [Lib.extract_toList, ← ByteArray.toList_eq]
  have h3 := head_at s h
  cases hl : s.toList with
  | nil => rw [hl] at h3; exact absurd h3 (by simp)
  | cons c r => rw [hl] at h3; simp at h3; simp [h3]

theorem minus_tail (s : ByteArray) : (s.extract 1 s.size).toList = s.toList.tail := by
  rw [Lib.extract_toList, ← ByteArray.toList_eq, List.take_of_length_le (by rw [List.length_drop, len_toList]; omega)]
  cases s.toList <;> rfl

set_option maxHeartbeats 400000 in
theorem gCutMinus (s : ByteArray) (w : World) (hs : s.size ≤ maxLen) :
    Calls Tryz.prog 221 #[.string s, .string ⟨#[45]⟩] w fun e w' => ∃ X : ByteArray, e = .returned (.tuple #[.string X, .bool (decide (s.toList.head? = some 45))]) ∧ X.toList = unMinus s.toList ∧ X.size ≤ s.size ∧ w = w' := by
  unfold maxLen at hs
  have g1 : (ByteArray.mk #[45]).size = 1 := rfl
  by_cases h0 : 0 < s.size
  · have h3 := head_at s h0
    cases hq : (s[0] == 45) with
    | true =>
      have e0 : s[0] = 45 := beq_iff_eq.1 hq
      have hx : ((s.extract 0 1).toList == [45]) = true := by rw [ex01 s h0, e0]; rfl
      have HD : Hid (decide (s.toList.head? = some 45) = true) := by show _ = _; rw [h3, e0]; rfl
      have HU : Hid (unMinus s.toList = s.toList.tail) := by show _ = _; rw [unMinus, if_pos (by rw [h3, e0])]
      clear h3 hq e0
      go_enter Tryz.func221, Tryz.ntmps221
      go_wp2
      go_ret2
      rw [HD.out, HU.out]
      exact ⟨s.extract 1 s.size, rfl, minus_tail s, by rw [← len_toList, minus_tail s, List.length_tail, len_toList]; omega, rfl⟩
    | false =>
      have e0 : ¬ s[0] = 45 := by simpa using hq
      have hx : ((s.extract 0 1).toList == [45]) = false := by
        rw [ex01 s h0]
        cases h : ([s[0]] == [45]) with
        | false => rfl
        | true => exact absurd (by simpa using h) e0
      have hne : ¬ s.toList.head? = some 45 := by rw [h3]; simpa using e0
      have HD : Hid (decide (s.toList.head? = some 45) = false) := by show _ = _; simpa using hne
      have HU : Hid (unMinus s.toList = s.toList) := by show _ = _; rw [unMinus, if_neg hne]
      clear h3 hq e0 hne
      go_enter Tryz.func221, Tryz.ntmps221
      go_wp2
      go_ret2
      rw [HD.out, HU.out]
      exact ⟨s, rfl, rfl, Nat.le_refl _, rfl⟩
  · have hl : s.toList = [] := List.eq_nil_of_length_eq_zero (by rw [len_toList]; omega)
    have HD : Hid (decide (s.toList.head? = some 45) = false) := by show _ = _; rw [hl]; rfl
    have HU : Hid (unMinus s.toList = s.toList) := by show _ = _; rw [hl]; rfl
    clear hl
    go_enter Tryz.func221, Tryz.ntmps221
    go_wp2
    go_ret2
    rw [HD.out, HU.out]
    exact ⟨s, rfl, rfl, Nat.le_refl _, rfl⟩

set_option maxHeartbeats 400000 in
theorem gValueOf (s : ByteArray) (w : World) (hs : s.size ≤ maxLen) (hd : s.toList.all digit = true) :
    Calls Tryz.prog 222 #[.string s] w fun e w' => e = .returned (.int .i64 (val s.toList)) ∧ w = w' := by
  unfold maxLen at hs
  have HD := hide hd
  clear hd
  go_enter Tryz.func222, Tryz.ntmps222
  go_wp2_with fail
  go_loop [3, 7] (fun n i => ∃ k : Nat, k ≤ s.size ∧ i = .int .i64 k ∧ n = .int .i64 (val (s.toList.take k))) (fun _ i => s.size - (intOf i).toNat)
  case atStart => exact ⟨0, Nat.zero_le _, rfl, rfl⟩
  case round =>
    obtain ⟨k, hk, rfl, rfl⟩ := hrel
    have hall : (s.toList.take k).all digit = true := by
      cases hq : (s.toList.take k).all digit with
      | true => rfl
      | false => have := all_false_of_take hq; rw [HD.out] at this; exact absurd this (by decide)
    have hb := val_bd _ hall
    clear hall
    by_cases hlt : k < s.size
    · have HV : Hid (val (s.toList.take (k + 1)) = min (val (s.toList.take k) * 10 + ((s[k].toNat : Int) - 48)) 1001) := val_snoc s k hlt
      have hdk : 48 ≤ (s[k].toNat : Int) ∧ (s[k].toNat : Int) ≤ 57 := by
        cases hq : digit s[k] with
        | true => simpa [digit] using hq
        | false => have := all_false_at s digit k hlt hq; rw [HD.out] at this; exact absurd this (by decide)
      obtain ⟨hd1, hd2⟩ := hdk
      go_wp2_with fail
      refine ⟨⟨k + 1, by omega, by go_num, congrArg (Value.int .i64) ?_⟩, by simp [intOf]; omega⟩
      rw [HV.out]
      split <;> omega
    · go_wp2_with fail
      go_ret
      rw [toList_whole s k (by omega)]
      exact ⟨rfl, rfl⟩

set_option maxHeartbeats 400000 in
theorem gReadNumber (s : ByteArray) (w : World) (hs : s.size ≤ maxLen) :
    Calls Tryz.prog 215 #[.string s] w fun e w' => e = .returned (.tuple #[.int .i64 ((numOf s.toList).getD 0), .bool (numOf s.toList).isSome]) ∧ w = w' := by
  obtain ⟨m, hm⟩ : ∃ m, decide (s.toList.head? = some 45) = m := ⟨_, rfl⟩
  have HC : Hid (∀ w, Calls Tryz.prog 221 #[.string s, .string ⟨#[45]⟩] w fun e w' => ∃ X : ByteArray, e = .returned (.tuple #[.string X, .bool m]) ∧ X.toList = unMinus s.toList ∧ X.size ≤ s.size ∧ w = w') := by
    intro w; have := gCutMinus s w hs; rw [hm] at this; exact this
  have HN : Hid (numOf s.toList = if unMinus s.toList = [] ∨ (unMinus s.toList).all digit = false ∨ ((unMinus s.toList).head? = some 48 ∧ s.toList ≠ [48]) then none else some (if m = true then - val (unMinus s.toList) else val (unMinus s.toList))) := by
    show _ = _
    rw [numOf, ← hm]
    simp
  have HM := hide hm
  have HS := hide hs
  unfold maxLen at hs
  clear hm
  go_enter Tryz.func215, Tryz.ntmps215
  go_wp2_with fail
  refine (HC.out _).mono ?_
  rintro e w' ⟨X, rfl, hX, hXs, rfl⟩
  rw [← hX] at HN
  have HX := hide hX
  clear hX HC
  have hXm : X.size ≤ maxLen := Nat.le_trans hXs HS.out
  have HA := hide (gAllWithin X 48 57)
  cases hem : X.toList.isEmpty with
  | true =>
    go_wp2_with fail
    go_ret2
    refine ⟨res_none ?_, rfl⟩
    rw [HN.out, if_pos (Or.inl (by simpa using hem))]
  | false =>
    have hpos : 0 < X.size := by
      cases h : X.size with
      | zero =>
        have := len_toList X
        rw [h] at this
        rw [List.eq_nil_of_length_eq_zero this] at hem
        exact absurd hem (by decide)
      | succ => omega
    cases hall : X.toList.all digit with
    | false =>
      have HA2 : Hid (∀ w, Calls Tryz.prog 102 #[.string X, .int .u8 48, .int .u8 57] w fun e w' => e = .returned (.bool false) ∧ w = w') := by
        intro w; have h1 := HA.out w hXm; rw [show X.toList.all (inB 48 57) = false from hall] at h1; exact h1
      have HALL := hide hall
      clear hall HA
      go_wp2_with (go_at_call 102; refine (HA2.out _).mono ?_; rintro e w' ⟨rfl, rfl⟩)
      go_ret2
      refine ⟨res_none ?_, rfl⟩
      rw [HN.out, if_pos (Or.inr (Or.inl HALL.out))]
    | true =>
      have HA2 : Hid (∀ w, Calls Tryz.prog 102 #[.string X, .int .u8 48, .int .u8 57] w fun e w' => e = .returned (.bool true) ∧ w = w') := by
        intro w; have h1 := HA.out w hXm; rw [show X.toList.all (inB 48 57) = true from hall] at h1; exact h1
      have HALL := hide hall
      have HH := hide (head_at X hpos)
      have hb := val_bd X.toList hall
      have HVO := hide (fun w => gValueOf X w hXm hall)
      clear hall HA
      have fin : (¬ (X.toList.head? = some 48 ∧ s.toList ≠ [48])) → numOf s.toList = some (if m = true then - val X.toList else val X.toList) := by
        intro hn
        rw [HN.out, if_neg]
        rintro (e | e | e)
        · rw [e] at hem; exact absurd hem (by decide)
        · rw [HALL.out] at e; exact absurd e (by decide)
        · exact hn e
      have FIN := hide fin
      clear fin
      cases h48 : ((X[0].toNat : Int) == 48) with
      | true =>
        have HEQ : Hid (X.toList.head? = some 48) := by
          show _ = _
          rw [HH.out, u8_of_int (c := X[0]) (n := 48) (by omega) (by simpa using h48)]; rfl
        cases hw : (s.toList == [48]) with
        | false =>
          go_wp2_with (go_at_call 102; refine (HA2.out _).mono ?_; rintro e w' ⟨rfl, rfl⟩)
          go_ret2
          refine ⟨res_none ?_, rfl⟩
          rw [HN.out, if_pos (Or.inr (Or.inr ⟨HEQ.out, by simpa using hw⟩))]
        | true =>
          have HF := hide (FIN.out (fun h => h.2 (beq_iff_eq.1 hw)))
          cases m with
          | true =>
            go_wp2_with first
              | (go_at_call 102; refine (HA2.out _).mono ?_; rintro e w' ⟨rfl, rfl⟩)
              | (go_at_call 222; refine (HVO.out _).mono ?_; rintro e w' ⟨rfl, rfl⟩)
            go_ret2
            exact ⟨res_some HF.out, rfl⟩
          | false =>
            go_wp2_with first
              | (go_at_call 102; refine (HA2.out _).mono ?_; rintro e w' ⟨rfl, rfl⟩)
              | (go_at_call 222; refine (HVO.out _).mono ?_; rintro e w' ⟨rfl, rfl⟩)
            go_ret2
            exact ⟨res_some HF.out, rfl⟩
      | false =>
        have HF := hide (FIN.out (fun h => by have h1 := h.1; rw [HH.out] at h1; rw [Option.some.inj h1] at h48; exact absurd h48 (by decide)))
        cases m with
        | true =>
          go_wp2_with first
            | (go_at_call 102; refine (HA2.out _).mono ?_; rintro e w' ⟨rfl, rfl⟩)
            | (go_at_call 222; refine (HVO.out _).mono ?_; rintro e w' ⟨rfl, rfl⟩)
          go_ret2
          exact ⟨res_some HF.out, rfl⟩
        | false =>
          go_wp2_with first
            | (go_at_call 102; refine (HA2.out _).mono ?_; rintro e w' ⟨rfl, rfl⟩)
            | (go_at_call 222; refine (HVO.out _).mono ?_; rintro e w' ⟨rfl, rfl⟩)
          go_ret2
          exact ⟨res_some HF.out, rfl⟩

end Go.Proofs.YtegbdaffhpiacaaGreatDoor
