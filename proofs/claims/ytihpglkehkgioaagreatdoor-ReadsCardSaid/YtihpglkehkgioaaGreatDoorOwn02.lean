/- The program: what is a blank, a bracket, within bounds, a name; Plain functions: the one form of a tree, and how long it can be; The tokens of a text: plain functions and lemmas. -/
import Derived.Test.YtihpglkehkgioaaGreatDoorOwn01
/- The program: what is a blank, a bracket, within bounds, a name. -/
namespace Go.Proofs.YtihpglkehkgioaaGreatDoor
open Go.RowKit Ar

set_option maxHeartbeats 400000 in
theorem gIsBlank (c : UInt8) (w : World) :
    Calls Tryz.prog 55 #[.int .u8 c.toNat] w fun e w' => e = .returned (.bool (isBl c)) ∧ w = w' := by
  rw [← bl_int]
  go_enter Tryz.func55, Tryz.ntmps55
  go_wp2
  all_goals
    go_ret
    refine ⟨?_, rfl⟩
    first
      | rfl
      | (apply ret_bool; simp_all; done)

theorem br_int (c : UInt8) : ((c.toNat : Int) == 40 || (c.toNat : Int) == 41) = isBr c := by
  have h : ∀ (n : Nat) (k : Int), (n : Int) = k → n < 256 → ((c.toNat : Int) == k) = (c == UInt8.ofNat n) := by
    intro n k hk hn
    subst hk
    rw [Bool.eq_iff_iff]
    simp only [beq_iff_eq]
    constructor
    · intro e
      apply UInt8.toNat_inj.1
      rw [UInt8.toNat_ofNat']
      omega
    · intro e
      rw [e, UInt8.toNat_ofNat']
      omega
  unfold isBr
  rw [h 40 40 rfl (by omega), h 41 41 rfl (by omega)]
  rfl

set_option maxHeartbeats 400000 in
theorem gIsBracket (c : UInt8) (w : World) :
    Calls Tryz.prog 87 #[.int .u8 c.toNat] w fun e w' => e = .returned (.bool (isBr c)) ∧ w = w' := by
  rw [← br_int]
  go_enter Tryz.func87, Tryz.ntmps87
  go_wp2
  all_goals
    go_ret
    refine ⟨?_, rfl⟩
    first
      | rfl
      | (apply ret_bool; simp_all; done)

set_option maxHeartbeats 400000 in
theorem gWithinInt (n lo hi : Int) (w : World) :
    Calls Tryz.prog 66 #[.int .i64 n, .int .i64 lo, .int .i64 hi] w fun e w' => e = .returned (.bool (decide (lo ≤ n ∧ n ≤ hi))) ∧ w = w' := by
  by_cases h1 : lo ≤ n
  · go_enter Tryz.func66, Tryz.ntmps66
    go_wp2
    go_ret
    exact ⟨ret_bool (by simp [h1]), rfl⟩
  · go_enter Tryz.func66, Tryz.ntmps66
    go_wp2
    go_ret
    exact ⟨ret_bool (by simp; omega), rfl⟩

set_option maxHeartbeats 400000 in
theorem gWithinByte (n lo hi : Int) (w : World) :
    Calls Tryz.prog 118 #[.int .u8 n, .int .u8 lo, .int .u8 hi] w fun e w' => e = .returned (.bool (decide (lo ≤ n ∧ n ≤ hi))) ∧ w = w' := by
  by_cases h1 : lo ≤ n
  · go_enter Tryz.func118, Tryz.ntmps118
    go_wp2
    go_ret
    exact ⟨ret_bool (by simp [h1]), rfl⟩
  · go_enter Tryz.func118, Tryz.ntmps118
    go_wp2
    go_ret
    exact ⟨ret_bool (by simp; omega), rfl⟩

def inB (lo hi : Int) (c : UInt8) : Bool := decide (lo ≤ (c.toNat : Int) ∧ (c.toNat : Int) ≤ hi)

set_option maxHeartbeats 400000 in
theorem gAllWithin (s : ByteArray) (lo hi : Int) (w : World) (hs : s.size ≤ maxLen) :
    Calls Tryz.prog 94 #[.string s, .int .u8 lo, .int .u8 hi] w fun e w' => e = .returned (.bool (s.toList.all (inB lo hi))) ∧ w = w' := by
  unfold maxLen at hs
  go_enter Tryz.func94, Tryz.ntmps94
  go_wp2_with fail
  go_loop [10] (fun i => ∃ k : Nat, k ≤ s.size ∧ i = .int .i64 k ∧ (s.toList.take k).all (inB lo hi) = true) (fun i => s.size - (intOf i).toNat)
  case atStart => exact ⟨0, Nat.zero_le _, rfl, rfl⟩
  case round =>
    obtain ⟨k, hk, rfl, ha⟩ := hrel
    have HA := hide ha
    clear ha
    by_cases hlt : k < s.size
    · have hw := gWithinByte s[k].toNat lo hi
      cases hq : inB lo hi s[k] with
      | true =>
        have HW : Hid (∀ w, Calls Tryz.prog 118 #[.int .u8 s[k].toNat, .int .u8 lo, .int .u8 hi] w fun e w' => e = .returned (.bool true) ∧ w = w') := by
          intro w; have h1 := hw w; rw [show decide (lo ≤ (s[k].toNat : Int) ∧ (s[k].toNat : Int) ≤ hi) = true from hq] at h1; exact h1
        have HQ := hide hq
        clear hw hq
        go_wp2_with (go_at_call 118; refine (HW.out _).mono ?_; rintro e w' ⟨rfl, rfl⟩)
        exact ⟨⟨k + 1, by omega, by go_num, all_true_snoc s _ k hlt HA.out HQ.out⟩, by simp [intOf]; omega⟩
      | false =>
        have HW : Hid (∀ w, Calls Tryz.prog 118 #[.int .u8 s[k].toNat, .int .u8 lo, .int .u8 hi] w fun e w' => e = .returned (.bool false) ∧ w = w') := by
          intro w; have h1 := hw w; rw [show decide (lo ≤ (s[k].toNat : Int) ∧ (s[k].toNat : Int) ≤ hi) = false from hq] at h1; exact h1
        have HQ := hide hq
        clear hw hq
        go_wp2_with (go_at_call 118; refine (HW.out _).mono ?_; rintro e w' ⟨rfl, rfl⟩)
        go_ret
        exact ⟨ret_bool (all_false_at s _ k hlt HQ.out).symm, rfl⟩
    · go_wp2_with fail
      go_ret
      have h1 := HA.out
      rw [toList_whole s k (by omega)] at h1
      exact ⟨ret_bool h1.symm, rfl⟩

set_option maxHeartbeats 1000000 in
theorem gIsReserved (s : ByteArray) (w : World) :
    Calls Tryz.prog 95 #[.string s] w fun e w' => e = .returned (.bool (isWord s.toList)) ∧ w = w' := by
  go_enter Tryz.func95, Tryz.ntmps95
  go_wp2
  all_goals
    go_ret
    refine ⟨ret_bool ?_, rfl⟩
    simp_all [isWord, wTrue, wFalse, wNot, wAnd, wOr, wIff, wLe]

theorem name_parts (s : ByteArray) : isName s.toList = (decide (1 ≤ (s.size : Int) ∧ (s.size : Int) ≤ 8) && s.toList.all (inB 97 122) && !isWord s.toList) := by
  unfold isName
  have e1 : s.toList.all letter = s.toList.all (inB 97 122) := rfl
  rw [e1, len_toList]
  have e2 : (decide (1 ≤ s.size) && decide (s.size ≤ 8)) = decide (1 ≤ (s.size : Int) ∧ (s.size : Int) ≤ 8) := by
    rw [Bool.eq_iff_iff]; simp; omega
  rw [e2]
  cases s.toList.all (inB 97 122) <;> cases isWord s.toList <;> simp

set_option maxHeartbeats 400000 in
theorem gIs (s : ByteArray) (w : World) (hs : s.size ≤ maxLen) :
    Calls Tryz.prog 65 #[.string s] w fun e w' => e = .returned (.bool (isName s.toList)) ∧ w = w' := by
  have h1 := gWithinInt s.size 1 8
  have h2 := gAllWithin s 97 122
  have h3 := gIsReserved s
  rw [name_parts]
  generalize decide (1 ≤ (s.size : Int) ∧ (s.size : Int) ≤ 8) = b1 at *
  generalize s.toList.all (inB 97 122) = b2 at *
  generalize isWord s.toList = b3 at *
  have H1 := hide h1
  have H2 := hide h2
  have H3 := hide h3
  have HS := hide hs
  unfold maxLen at hs
  clear h1 h2 h3
  cases b1 <;> cases b2 <;> cases b3
  all_goals
    go_enter Tryz.func65, Tryz.ntmps65
    go_wp2_with first
      | (go_at_call 66; refine (H1.out _).mono ?_; rintro e w' ⟨rfl, rfl⟩)
      | (go_at_call 94; refine (H2.out _ HS.out).mono ?_; rintro e w' ⟨rfl, rfl⟩)
      | (go_at_call 95; refine (H3.out _).mono ?_; rintro e w' ⟨rfl, rfl⟩)
    go_ret
    exact ⟨rfl, rfl⟩

end Go.Proofs.YtihpglkehkgioaaGreatDoor

/- Plain functions: the one form of a tree, and how long it can be. -/
namespace Go.Proofs.YtihpglkehkgioaaGreatDoor
namespace Ar

def dig (n : Nat) : UInt8 := UInt8.ofNat (48 + n)
/-- Digits of a natural number (as many as the first argument allows). -/
def itoaN : Nat → Nat → List UInt8
  | 0, n => [dig n]
  | f + 1, n => if n < 10 then [dig n] else itoaN f (n / 10) ++ [dig (n % 10)]
/-- A number from -9999 to 9999 as text. -/
def itoa (v : Int) : List UInt8 := if v < 0 then 45 :: itoaN 3 (-v).toNat else itoaN 3 v.toNat

def tokOf (k : Int) (w : ByteArray) (v : Int) : List UInt8 := if k = 4 ∨ k = 5 then itoa v else w.toList

mutual
/-- The one form of a tree. -/
def formOf : Nd → List UInt8
  | .mk k w v ps => if k = 1 ∨ k = 2 ∨ ps ≠ [] then 40 :: (tokOf k w v ++ formsOf ps ++ [41]) else tokOf k w v
def formsOf : List Nd → List UInt8
  | [] => []
  | p :: ps => 32 :: (formOf p ++ formsOf ps)
end

theorem formsOf_snoc (ps : List Nd) (p : Nd) : formsOf (ps ++ [p]) = formsOf ps ++ 32 :: formOf p := by
  induction ps with
  | nil => simp [formsOf]
  | cons q qs ih => simp [formsOf, ih]

theorem itoaN_len (f n : Nat) : (itoaN f n).length ≤ f + 1 := by
  induction f generalizing n with
  | zero => simp [itoaN]
  | succ f ih =>
    unfold itoaN
    split
    · simp
    · have := ih (n / 10)
      simp; omega

theorem itoa_len (v : Int) : (itoa v).length ≤ 5 := by
  unfold itoa
  split
  · have := itoaN_len 3 (-v).toNat; simp; omega
  · have := itoaN_len 3 v.toNat; omega

/-- All tokens are short. -/
def TS (ts : List Tk) : Prop := ∀ t ∈ ts, t.txt.size ≤ 600

theorem TS.tail {t : Tk} {ts : List Tk} (h : TS (t :: ts)) : TS ts := fun u hu => h u (List.mem_cons_of_mem _ hu)

/-- A tree that was read is no longer than its tokens allow, and tokens were read. -/
def BD (nd : Nd) (ts ts' : List Tk) : Prop := (formOf nd).length + 1 + 603 * ts'.length ≤ 603 * ts.length ∧ TS ts'

def Fits (f : List Tk → Rs Nd) : Prop := ∀ ts nd ts', TS ts → f ts = .ok nd ts' → BD nd ts ts'

theorem row_fits (fs : List (List Tk → Rs Nd)) (h : ∀ f ∈ fs, Fits f) : ∀ ts ps ts', TS ts → rdRow fs ts = .ok ps ts' → (formsOf ps).length + 603 * ts'.length ≤ 603 * ts.length ∧ TS ts' := by
  induction fs with
  | nil =>
    intro ts ps ts' hs e
    simp only [rdRow, Rs.ok.injEq] at e
    obtain ⟨rfl, rfl⟩ := e
    exact ⟨by simp [formsOf], hs⟩
  | cons f fs ih =>
    intro ts ps ts' hs e
    unfold rdRow at e
    split at e
    · exact absurd e (by simp)
    · rename_i a us hf
      split at e
      · exact absurd e (by simp)
      · rename_i as vs hr
        simp only [Rs.ok.injEq] at e
        obtain ⟨rfl, rfl⟩ := e
        have h1 := h f (List.mem_cons_self ..) ts a us hs hf
        have h2 := ih (fun g hg => h g (List.mem_cons_of_mem _ hg)) us as vs h1.2 hr
        refine ⟨?_, h2.2⟩
        have := h1.1
        have := h2.1
        simp [formsOf]; omega

theorem upTo_fits (m : Nat) (f : List Tk → Rs Nd) (h : Fits f) : ∀ ts ps ts', TS ts → rdUpTo m f ts = .ok ps ts' → (formsOf ps).length + 603 * ts'.length ≤ 603 * ts.length ∧ TS ts' := by
  induction m with
  | zero => intro ts ps ts' _ e; exact absurd e (by simp [rdUpTo])
  | succ m ih =>
    intro ts ps ts' hs e
    cases ts with
    | nil => exact absurd e (by simp [rdUpTo])
    | cons t ts =>
      unfold rdUpTo at e
      split at e
      · simp only [Rs.ok.injEq] at e
        obtain ⟨rfl, rfl⟩ := e
        exact ⟨by simp [formsOf], hs⟩
      · split at e
        · exact absurd e (by simp)
        · rename_i a us hf
          split at e
          · exact absurd e (by simp)
          · rename_i as vs hr
            simp only [Rs.ok.injEq] at e
            obtain ⟨rfl, rfl⟩ := e
            have h1 := h _ a us hs hf
            have h2 := ih us as vs h1.2 hr
            refine ⟨?_, h2.2⟩
            have := h1.1
            have := h2.1
            simp [formsOf] at *; omega

theorem size_list (s : ByteArray) : s.toList.length = s.size := len_toList s

theorem num_fits (k : Int) (hk : k = 4 ∨ k = 5) : Fits (rdNum k) := by
  intro ts nd ts' hs e
  cases ts with
  | nil => exact absurd e (by simp [rdNum])
  | cons t ts =>
    simp only [rdNum] at e
    split at e
    · exact absurd e (by simp)
    · rename_i v _
      split at e
      · exact absurd e (by simp)
      · simp only [Rs.ok.injEq] at e
        obtain ⟨rfl, rfl⟩ := e
        refine ⟨?_, hs.tail⟩
        have := itoa_len v
        have h1 : ¬ (k = 1 ∨ k = 2 ∨ ([] : List Nd) ≠ []) := by rcases hk with rfl | rfl <;> simp
        rw [formOf, if_neg h1, tokOf, if_pos hk]
        simp; omega

theorem tok_le (k : Int) (w : ByteArray) (v : Int) (h : w.size ≤ 600) : (tokOf k w v).length ≤ 600 := by
  unfold tokOf
  split
  · have := itoa_len v; omega
  · rw [size_list]; exact h

theorem form_le (k : Int) (w : ByteArray) (v : Int) (ps : List Nd) (h : w.size ≤ 600) : (formOf (.mk k w v ps)).length ≤ 602 + (formsOf ps).length := by
  have := tok_le k w v h
  rw [formOf]
  split
  · simp; omega
  · omega

theorem closes_fits {e k : Int} {w : ByteArray} {r : Rs (List Nd)} {nd : Nd} {ts ts' : List Tk} (hw : w.size ≤ 600) (hr : ∀ ps us, r = .ok ps us → (formsOf ps).length + 603 * us.length ≤ 603 * ts.length ∧ TS us) (h : rdCloses e k w r = .ok nd ts') :
    (formOf nd).length + 603 * ts'.length ≤ 603 * ts.length ∧ TS ts' := by
  cases r with
  | no e p => exact absurd h (by simp [rdCloses])
  | ok ps us =>
    obtain ⟨h1, h2⟩ := hr ps us rfl
    cases us with
    | nil => exact absurd h (by simp [rdCloses, rdShut])
    | cons v vs =>
      simp only [rdCloses, rdShut] at h
      split at h
      · simp only [Rs.ok.injEq] at h
        obtain ⟨rfl, rfl⟩ := h
        have := form_le k w 0 ps hw
        refine ⟨?_, h2.tail⟩
        simp at h1; omega
      · split at h <;> exact absurd h (by simp)

theorem arg_fits {f : List Tk → Rs Nd} (h : Fits f) : Fits (rdArg f) := by
  intro ts nd ts' hs e
  cases ts with
  | nil => exact absurd e (by simp [rdArg])
  | cons t ts =>
    simp only [rdArg] at e
    split at e
    · exact absurd e (by simp)
    · exact h _ _ _ hs e

theorem term_fits (N : List Nm) (n : Nat) : ∀ d, Fits (rdTerm N n d) := by
  induction n with
  | zero => intro d ts nd ts' _ e; exact absurd e (by simp [rdTerm])
  | succ n ih =>
    intro d ts nd ts' hs e
    cases ts with
    | nil => exact absurd e (by simp [rdTerm])
    | cons t ts =>
      unfold rdTerm at e
      split at e
      · split at e
        · exact absurd e (by simp)
        · split at e
          · exact absurd e (by simp)
          · rename_i u us
            split at e
            · split at e
              · exact absurd e (by simp)
              · rename_i a _
                split at e
                · exact absurd e (by simp)
                · have hus : TS us := hs.tail.tail
                  have h1 := closes_fits (ts := us) (hs.tail u (List.mem_cons_self ..)) (fun ps vs hr => row_fits _ (fun f hf => by rw [(List.mem_replicate.1 hf).2]; exact arg_fits (ih (d + 1))) us ps vs hus hr) e
                  refine ⟨?_, h1.2⟩
                  have := h1.1
                  simp; omega
            · exact absurd e (by simp)
      · split at e
        · split at e
          · exact absurd e (by simp)
          · split at e
            · simp only [Rs.ok.injEq] at e
              obtain ⟨rfl, rfl⟩ := e
              refine ⟨?_, hs.tail⟩
              have := form_le 3 t.txt 0 [] (hs t (List.mem_cons_self ..))
              simp [formsOf] at *; omega
            · exact absurd e (by simp)
        · exact num_fits 4 (Or.inl rfl) _ _ _ hs e

theorem form_fits (N : List Nm) (n : Nat) : ∀ d, Fits (rdForm N n d) := by
  induction n with
  | zero => intro d ts nd ts' _ e; exact absurd e (by simp [rdForm])
  | succ n ih =>
    intro d ts nd ts' hs e
    cases ts with
    | nil => exact absurd e (by simp [rdForm])
    | cons t ts =>
      unfold rdForm at e
      split at e
      · split at e
        · exact absurd e (by simp)
        · split at e
          · exact absurd e (by simp)
          · rename_i u us
            split at e
            · exact absurd e (by simp)
            · rename_i ks _
              have hus : TS us := hs.tail.tail
              have hp : ∀ ps vs, rdParts ks.2 n (rdForm N n (d + 1)) (rdTerm N n (d + 1)) (rdNum 5) us = .ok ps vs → (formsOf ps).length + 603 * vs.length ≤ 603 * us.length ∧ TS vs := by
                intro ps vs hr
                unfold rdParts at hr
                split at hr
                · exact row_fits _ (by intro f hf; simp at hf; subst hf; exact ih (d + 1)) us ps vs hus hr
                · split at hr
                  · exact row_fits _ (by intro f hf; simp at hf; subst hf; exact ih (d + 1)) us ps vs hus hr
                  · split at hr
                    · exact row_fits _ (by intro f hf; simp at hf; subst hf; exact term_fits N n (d + 1)) us ps vs hus hr
                    · split at hr
                      · exact row_fits _ (by intro f hf; simp at hf; rcases hf with rfl | rfl; exact term_fits N n (d + 1); exact num_fits 5 (Or.inr rfl)) us ps vs hus hr
                      · exact upTo_fits n _ (ih (d + 1)) us ps vs hus hr
              have h1 := closes_fits (ts := us) (hs.tail u (List.mem_cons_self ..)) hp e
              refine ⟨?_, h1.2⟩
              have := h1.1
              simp; omega
      · split at e
        · simp only [Rs.ok.injEq] at e
          obtain ⟨rfl, rfl⟩ := e
          refine ⟨?_, hs.tail⟩
          have := form_le 0 t.txt 0 [] (hs t (List.mem_cons_self ..))
          simp [formsOf] at *; omega
        · exact absurd e (by simp)

end Ar
end Go.Proofs.YtihpglkehkgioaaGreatDoor

/- The tokens of a text: plain functions and lemmas. -/
namespace Go.Proofs.YtihpglkehkgioaaGreatDoor
namespace Ar

def tkFlush (i : Nat) (wd : List UInt8) : List Tk := if wd = [] then [] else [⟨i - wd.length, ⟨wd.toArray⟩⟩]

/-- The tokens from place i on, with a word that is under way. -/
def tkGo : Nat → List UInt8 → List UInt8 → List Tk
  | i, wd, [] => tkFlush i wd ++ [⟨i, ByteArray.empty⟩]
  | i, wd, c :: r => if isBr c then tkFlush i wd ++ ⟨i, ⟨#[c]⟩⟩ :: tkGo (i + 1) [] r else if isBl c then tkFlush i wd ++ tkGo (i + 1) [] r else tkGo (i + 1) (wd ++ [c]) r

def toks (l : List UInt8) : List Tk := tkGo 0 [] l

theorem flush_len (i : Nat) (wd : List UInt8) : (tkFlush i wd).length = if wd = [] then 0 else 1 := by
  unfold tkFlush; split <;> rfl

theorem go_len (l : List UInt8) : ∀ i wd, (tkGo i wd l).length ≤ l.length + 1 + (if wd = [] then 0 else 1) := by
  induction l with
  | nil => intro i wd; simp [tkGo, flush_len]; omega
  | cons c r ih =>
    intro i wd
    unfold tkGo
    split
    · have := ih (i + 1) []
      simp [flush_len] at this ⊢; omega
    · split
      · have := ih (i + 1) []
        simp [flush_len] at this ⊢; omega
      · have := ih (i + 1) (wd ++ [c])
        simp at this ⊢; split <;> omega

theorem toks_len (l : List UInt8) : (toks l).length ≤ l.length + 1 := by
  have := go_len l 0 []
  simpa [toks] using this

theorem mk_toList (l : List UInt8) : (ByteArray.mk l.toArray).toList = l := by
  rw [ByteArray.toList_eq]

theorem TW_app {t : Tk} {ts : List Tk} (h : TW ts) (ht : t.txt.toList ≠ []) : TW (t :: ts) := by
  cases ts with
  | nil => exact absurd rfl h.ne
  | cons u us => exact ⟨ht, h⟩

theorem TW_flush {i : Nat} {wd : List UInt8} {ts : List Tk} (h : TW ts) : TW (tkFlush i wd ++ ts) := by
  unfold tkFlush
  split
  · exact h
  · rename_i hw
    exact TW_app h (by rw [mk_toList]; exact hw)

theorem empty_toList : ByteArray.empty.toList = [] := by rw [ByteArray.toList_eq]; rfl

theorem go_wf (l : List UInt8) : ∀ i wd, TW (tkGo i wd l) := by
  induction l with
  | nil => intro i wd; exact TW_flush empty_toList
  | cons c r ih =>
    intro i wd
    unfold tkGo
    split
    · exact TW_flush (TW_app (ih _ _) (by rw [show (ByteArray.mk #[c]).toList = [c] from mk_toList [c]]; simp))
    · split
      · exact TW_flush (ih _ _)
      · exact ih _ _

theorem go_short (l : List UInt8) (B : Nat) : ∀ i wd, wd.length + l.length ≤ B → 1 ≤ B → ∀ t ∈ tkGo i wd l, t.txt.size ≤ B := by
  have hfl : ∀ i wd, wd.length ≤ B → ∀ t ∈ tkFlush i wd, t.txt.size ≤ B := by
    intro i wd hB t ht
    unfold tkFlush at ht
    split at ht
    · exact absurd ht (by simp)
    · simp at ht
      rw [ht, ← size_list, mk_toList]
      exact hB
  induction l with
  | nil =>
    intro i wd hB _ t ht
    unfold tkGo at ht
    rcases List.mem_append.1 ht with h | h
    · exact hfl _ _ (by simp at hB; omega) t h
    · simp at h
      rw [h, ← size_list, empty_toList]; simp
  | cons c r ih =>
    intro i wd hB h1 t ht
    simp at hB
    unfold tkGo at ht
    split at ht
    · rcases List.mem_append.1 ht with h | h
      · exact hfl _ _ (by omega) t h
      · rcases List.mem_cons.1 h with h | h
        · rw [h, ← size_list, show (ByteArray.mk #[c]).toList = [c] from mk_toList [c]]; simpa using h1
        · exact ih _ _ (by simp; omega) h1 t h
    · split at ht
      · rcases List.mem_append.1 ht with h | h
        · exact hfl _ _ (by omega) t h
        · exact ih _ _ (by simp; omega) h1 t h
      · exact ih _ _ (by simp; omega) h1 t ht

end Ar
end Go.Proofs.YtihpglkehkgioaaGreatDoor
