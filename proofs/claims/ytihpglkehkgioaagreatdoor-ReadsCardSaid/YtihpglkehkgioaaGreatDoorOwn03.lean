/- Tokens, one after the other: plain lemmas; The document's own answer: what a number is; The reader of the document's own answer in memory: its block, the tokens' block, the names' block; The reader of the document's own answer: its small methods. -/
import Derived.Test.YtihpglkehkgioaaGreatDoorOwn02
import Derived.Test.YtihpglkehkgioaaGreatDoorOwn01
import Derived.Test.YtihpglkehkgioaaGreatDoorProg
/- Tokens, one after the other: plain lemmas. -/
namespace Go.Proofs.YtihpglkehkgioaaGreatDoor
namespace Ar

def plain (c : UInt8) : Bool := !isBl c && !isBr c

/-- The kind of a token by its text: 0 the end, 1 and 2 brackets, 3 a word. -/
def kOf (l : List UInt8) : Int := if l = [] then 0 else if l = [40] then 1 else if l = [41] then 2 else 3

theorem go_plain (u : List UInt8) : ∀ i wd rest, u.all plain = true → tkGo i wd (u ++ rest) = tkGo (i + u.length) (wd ++ u) rest := by
  induction u with
  | nil => intro i wd rest _; simp
  | cons c u ih =>
    intro i wd rest h
    simp only [List.all_cons, Bool.and_eq_true] at h
    obtain ⟨hc, hu⟩ := h
    simp only [plain, Bool.and_eq_true, Bool.not_eq_true'] at hc
    rw [List.cons_append, tkGo, if_neg (by rw [hc.2]; decide), if_neg (by rw [hc.1]; decide), ih _ _ _ hu]
    simp
    have : i + 1 + u.length = i + (u.length + 1) := by omega
    rw [this]

theorem go_stop (j : Nat) (wd rest : List UInt8) (hw : wd ≠ []) (hr : ∀ c r, rest = c :: r → plain c = false) : tkGo j wd rest = ⟨j - wd.length, ⟨wd.toArray⟩⟩ :: tkGo j [] rest := by
  have hf : tkFlush j wd = [⟨j - wd.length, ⟨wd.toArray⟩⟩] := by rw [tkFlush, if_neg hw]
  have hf0 : tkFlush j [] = [] := rfl
  cases rest with
  | nil => simp [tkGo, hf, hf0]
  | cons c r =>
    have hc := hr c r rfl
    cases hb : isBr c with
    | true => simp [tkGo, hb, hf, hf0]
    | false =>
      have hl : isBl c = true := by
        cases h : isBl c with
        | true => rfl
        | false => rw [plain, h, hb] at hc; exact absurd hc (by decide)
      simp [tkGo, hb, hl, hf, hf0]

/-- A word that begins at k. -/
theorem go_word (k : Nat) (u rest : List UInt8) (hu : u ≠ []) (hp : u.all plain = true) (hr : ∀ c r, rest = c :: r → plain c = false) : tkGo k [] (u ++ rest) = ⟨k, ⟨u.toArray⟩⟩ :: tkGo (k + u.length) [] rest := by
  rw [go_plain u k [] rest hp, List.nil_append, go_stop _ _ _ hu hr]
  have : k + u.length - u.length = k := by omega
  rw [this]

theorem go_br (k : Nat) (c : UInt8) (r : List UInt8) (h : isBr c = true) : tkGo k [] (c :: r) = ⟨k, ⟨#[c]⟩⟩ :: tkGo (k + 1) [] r := by
  rw [tkGo, if_pos h]; rfl

theorem go_bl (k : Nat) (c : UInt8) (r : List UInt8) (h : isBl c = true) : tkGo k [] (c :: r) = tkGo (k + 1) [] r := by
  have hb : isBr c = false := by
    unfold isBl at h
    simp at h
    rcases h with (rfl | rfl) | rfl <;> decide
  rw [tkGo, if_neg (by rw [hb]; decide), if_pos h]; rfl

theorem kOf_word {u : List UInt8} (hu : u ≠ []) (hp : u.all plain = true) : kOf u = 3 := by
  have h1 : u ≠ [40] := by intro e; rw [e] at hp; exact absurd hp (by decide)
  have h2 : u ≠ [41] := by intro e; rw [e] at hp; exact absurd hp (by decide)
  rw [kOf, if_neg hu, if_neg h1, if_neg h2]

end Ar
end Go.Proofs.YtihpglkehkgioaaGreatDoor

/- The document's own answer: what a number is. -/
namespace Go.Proofs.YtihpglkehkgioaaGreatDoor
open Go.RowKit Ar

theorem val_snoc (s : ByteArray) (k : Nat) (h : k < s.size) : val (s.toList.take (k + 1)) = min (val (s.toList.take k) * 10 + ((s[k].toNat : Int) - 48)) 1001 := by
  rw [toList_snoc s k h, val, List.foldl_append]; rfl

theorem val_bd (l : List UInt8) (h : l.all digit = true) : 0 ≤ val l ∧ val l ≤ 1001 := by
  unfold val
  have key : ∀ (l : List UInt8) (v : Int), l.all digit = true → 0 ≤ v → v ≤ 1001 → 0 ≤ l.foldl (fun v c => min (v * 10 + ((c.toNat : Int) - 48)) 1001) v ∧ l.foldl (fun v c => min (v * 10 + ((c.toNat : Int) - 48)) 1001) v ≤ 1001 := by
    intro l
    induction l with
    | nil => intro v _ h0 h1; exact ⟨h0, h1⟩
    | cons c r ih =>
      intro v hd h0 h1
      simp only [List.all_cons, Bool.and_eq_true] at hd
      obtain ⟨hc, hr⟩ := hd
      simp [digit] at hc
      exact ih _ hr (by show 0 ≤ min (v * 10 + ((c.toNat : Int) - 48)) 1001; omega) (by show min (v * 10 + ((c.toNat : Int) - 48)) 1001 ≤ 1001; omega)
  exact key l 0 h (by omega) (by omega)

theorem head_at (s : ByteArray) (h : 0 < s.size) : s.toList.head? = some s[0] := by
  have e := toList_snoc s 0 h
  rw [List.take_zero, List.nil_append] at e
  cases hl : s.toList with
  | nil => have := len_toList s; rw [hl] at this; simp at this; omega
  | cons c r => rw [hl] at e; simpa using e

theorem u8_of_int {c : UInt8} {n : Nat} (hn : n < 256) (h : (c.toNat : Int) = n) : c = UInt8.ofNat n := by
  apply UInt8.toNat_inj.1
  rw [UInt8.toNat_ofNat']
  omega

theorem num_plain (l : List UInt8) (h : l.head? ≠ some 45) : numOf l = if l = [] ∨ l.all digit = false ∨ (l.head? = some 48 ∧ l ≠ [48]) then none else some (val l) := by
  simp only [numOf, unMinus, if_neg h]

theorem num_minus (x : List UInt8) : numOf (45 :: x) = if x = [] ∨ x.all digit = false ∨ x.head? = some 48 then none else some (- val x) := by
  simp [numOf, unMinus]

theorem res2 {a b : Int} {x y : Bool} (h : a = b) (k : x = y) : Ending.returned (.tuple #[.int .i64 a, .bool x]) = .returned (.tuple #[.int .i64 b, .bool y]) := by rw [h, k]

theorem res_none {l : List UInt8} (h : numOf l = none) : Ending.returned (.tuple #[.int .i64 0, .bool false]) = .returned (.tuple #[.int .i64 ((numOf l).getD 0), .bool (numOf l).isSome]) := by rw [h]; rfl
theorem res_some {l : List UInt8} {v : Int} (h : numOf l = some v) : Ending.returned (.tuple #[.int .i64 v, .bool true]) = .returned (.tuple #[.int .i64 ((numOf l).getD 0), .bool (numOf l).isSome]) := by rw [h]; rfl

set_option maxHeartbeats 1000000 in
theorem number_empty (s : ByteArray) (w : World) (h0 : s.size = 0) :
    Calls Tryz.prog 86 #[.string s] w fun e w' => e = .returned (.tuple #[.int .i64 ((numOf s.toList).getD 0), .bool (numOf s.toList).isSome]) ∧ w' = w := by
  obtain rfl : s = ByteArray.empty := bytes_ext ((List.eq_nil_of_length_eq_zero (by rw [len_toList]; exact h0)).trans (by rw [ByteArray.toList_eq]; rfl))
  go_enter Tryz.func86, Tryz.ntmps86
  go_wp2
  go_loop [5, 6] (fun n i => n = .int .i64 0 ∧ i = .int .i64 0) (fun _ _ => 0)
  case atStart => exact ⟨rfl, rfl⟩
  case round =>
    obtain ⟨rfl, rfl⟩ := hrel
    go_wp2
    go_ret2
    exact ⟨rfl, rfl⟩

set_option maxHeartbeats 1000000 in
theorem number_plain (s : ByteArray) (w : World) (hs : s.size ≤ maxLen) (h0 : 0 < s.size) (hm : ((s[0].toNat : Int) == 45) = false) :
    Calls Tryz.prog 86 #[.string s] w fun e w' => e = .returned (.tuple #[.int .i64 ((numOf s.toList).getD 0), .bool (numOf s.toList).isSome]) ∧ w' = w := by
  unfold maxLen at hs
  have HP : Hid (numOf s.toList = if s.toList = [] ∨ s.toList.all digit = false ∨ (s.toList.head? = some 48 ∧ s.toList ≠ [48]) then none else some (val s.toList)) := by
    apply num_plain
    rw [head_at s h0]
    intro e
    rw [Option.some.inj e] at hm
    exact absurd hm (by decide)
  have he : s.toList.isEmpty = false := by
    cases h : s.toList with
    | nil => have := len_toList s; rw [h] at this; simp at this; omega
    | cons => rfl
  have HZ : Hid (s.toList.length = s.size) := len_toList s
  go_enter Tryz.func86, Tryz.ntmps86
  go_wp2
  go_loop [5, 6] (fun n i => ∃ k : Nat, k ≤ s.size ∧ i = .int .i64 k ∧ (s.toList.take k).all digit = true ∧ n = .int .i64 (val (s.toList.take k))) (fun _ i => s.size - (intOf i).toNat)
  case atStart => exact ⟨0, Nat.zero_le _, rfl, rfl, rfl⟩
  case round =>
    obtain ⟨k, hk, rfl, ha, rfl⟩ := hrel
    have hb := val_bd _ ha
    have HA : Hid ((s.toList.take k).all digit = true) := ha
    clear ha
    by_cases hlt : k < s.size
    · have HV : Hid (val (s.toList.take (k + 1)) = min (val (s.toList.take k) * 10 + ((s[k].toNat : Int) - 48)) 1001) := val_snoc s k hlt
      go_wp2
      all_goals first
        | (go_ret2
           refine ⟨res_none ?_, rfl⟩
           rw [HP.out, if_pos]
           exact Or.inr (Or.inl (all_false_at s digit k hlt (by simp [digit]; omega))))
        | (refine ⟨⟨k + 1, by omega, by go_num, all_true_snoc s digit k hlt HA.out (by simp [digit]; omega), congrArg (Value.int .i64) ?_⟩, by simp [intOf]; omega⟩
           rw [HV.out]; omega)
    · have hw : s.toList.take k = s.toList := toList_whole s k (by omega)
      have HW : Hid (val (s.toList.take k) = val s.toList) := by rw [hw]; exact rfl
      have HD : Hid (s.toList.all digit = true) := by have := HA.out; rw [hw] at this; exact this
      have HH : Hid (s.toList.head? = some s[0]) := head_at s h0
      clear hw HA
      by_cases h48 : ((s[0].toNat : Int) == 48) = true
      · by_cases h1 : 1 < (s.size : Int)
        · go_wp2
          go_ret2
          refine ⟨res_none ?_, rfl⟩
          rw [HP.out, if_pos]
          refine Or.inr (Or.inr ⟨?_, ?_⟩)
          · rw [HH.out, u8_of_int (c := s[0]) (n := 48) (by omega) (by simpa using h48)]; rfl
          · intro e; have := HZ.out; rw [e] at this; simp at this; omega
        · go_wp2
          go_ret2
          refine ⟨(res2 HW.out rfl).trans (res_some ?_), rfl⟩
          have h2 := HZ.out
          have h3 := HH.out
          have h4 := HD.out
          rw [HP.out, if_neg]
          rintro (e | e | ⟨_, e⟩)
          · rw [e] at he; exact absurd he (by decide)
          · rw [h4] at e; exact absurd e (by decide)
          · apply e
            match hl : s.toList, h2, h3 with
            | [], h2, _ => simp at h2; omega
            | [c], _, h3 => simp at h3; rw [h3, u8_of_int (c := s[0]) (n := 48) (by omega) (by simpa using h48)]; rfl
            | _ :: _ :: _, h2, _ => simp at h2; omega
      · go_wp2
        go_ret2
        refine ⟨(res2 HW.out rfl).trans (res_some ?_), rfl⟩
        have h3 := HH.out
        have h4 := HD.out
        rw [HP.out, if_neg]
        rintro (e | e | ⟨e, _⟩)
        · rw [e] at he; exact absurd he (by decide)
        · rw [h4] at e; exact absurd e (by decide)
        · rw [h3] at e; rw [Option.some.inj e] at h48; exact h48 rfl

set_option maxHeartbeats 1000000 in
theorem number_minus (s : ByteArray) (w : World) (hs : s.size ≤ maxLen) (h0 : 0 < s.size) (hm : ((s[0].toNat : Int) == 45) = true) :
    Calls Tryz.prog 86 #[.string s] w fun e w' => e = .returned (.tuple #[.int .i64 ((numOf s.toList).getD 0), .bool (numOf s.toList).isSome]) ∧ w' = w := by
  unfold maxLen at hs
  obtain ⟨x, hx⟩ : ∃ x, s.extract 1 s.size = x := ⟨_, rfl⟩
  have hl : s.toList = 45 :: x.toList := by
    have h3 := head_at s h0
    rw [u8_of_int (c := s[0]) (n := 45) (by omega) (by simpa using hm)] at h3
    rw [← hx, Lib.extract_toList, ← ByteArray.toList_eq, List.take_of_length_le (by rw [List.length_drop, len_toList]; omega)]
    match hl : s.toList, h3 with
    | c :: r, h3 => simp at h3; rw [h3]; rfl
  have HP : Hid (numOf s.toList = if x.toList = [] ∨ x.toList.all digit = false ∨ x.toList.head? = some 48 then none else some (- val x.toList)) := by
    rw [hl]; exact num_minus _
  have HZ : Hid (x.toList.length = x.size) := len_toList x
  have hxs : x.size ≤ 2 ^ 63 - 1 := by
    have h1 := len_toList s
    have h2 := len_toList x
    rw [hl] at h1; simp at h1; omega
  have HX : Hid (s.extract 1 s.size = x) := hx
  clear hl hx
  go_enter Tryz.func86, Tryz.ntmps86
  go_wp2
  rw [HX.out]
  go_loop [5, 6] (fun n i => ∃ k : Nat, k ≤ x.size ∧ i = .int .i64 k ∧ (x.toList.take k).all digit = true ∧ n = .int .i64 (val (x.toList.take k))) (fun _ i => x.size - (intOf i).toNat)
  case atStart => exact ⟨0, Nat.zero_le _, rfl, rfl, rfl⟩
  case round =>
    obtain ⟨k, hk, rfl, ha, rfl⟩ := hrel
    have hb := val_bd _ ha
    have HA : Hid ((x.toList.take k).all digit = true) := ha
    clear ha
    by_cases hlt : k < x.size
    · have HV : Hid (val (x.toList.take (k + 1)) = min (val (x.toList.take k) * 10 + ((x[k].toNat : Int) - 48)) 1001) := val_snoc x k hlt
      go_wp2
      all_goals first
        | (go_ret2
           refine ⟨res_none ?_, rfl⟩
           rw [HP.out, if_pos]
           exact Or.inr (Or.inl (all_false_at x digit k hlt (by simp [digit]; omega))))
        | (refine ⟨⟨k + 1, by omega, by go_num, all_true_snoc x digit k hlt HA.out (by simp [digit]; omega), congrArg (Value.int .i64) ?_⟩, by simp [intOf]; omega⟩
           rw [HV.out]; omega)
    · have hw : x.toList.take k = x.toList := toList_whole x k (by omega)
      have HW : Hid (val (x.toList.take k) = val x.toList) := by rw [hw]; exact rfl
      have HD : Hid (x.toList.all digit = true) := by have := HA.out; rw [hw] at this; exact this
      clear hw HA
      by_cases hz : 0 < x.size
      · have HH : Hid (x.toList.head? = some x[0]) := head_at x hz
        have he : x.toList.isEmpty = false := by
          cases h : x.toList with
          | nil => have := HZ.out; rw [h] at this; simp at this; omega
          | cons => rfl
        by_cases h48 : ((x[0].toNat : Int) == 48) = true
        · go_wp2
          all_goals
            go_ret2
            refine ⟨res_none ?_, rfl⟩
            rw [HP.out, if_pos]
            refine Or.inr (Or.inr ?_)
            rw [HH.out, u8_of_int (c := x[0]) (n := 48) (by omega) (by simpa using h48)]; rfl
        · go_wp2
          go_ret2
          refine ⟨(res2 (by rw [HW.out]) rfl).trans (res_some ?_), rfl⟩
          have h3 := HH.out
          have h4 := HD.out
          rw [HP.out, if_neg]
          rintro (e | e | e)
          · rw [e] at he; exact absurd he (by decide)
          · rw [h4] at e; exact absurd e (by decide)
          · rw [h3] at e; rw [Option.some.inj e] at h48; exact h48 rfl
      · have he : x.toList = [] := List.eq_nil_of_length_eq_zero (by rw [HZ.out]; omega)
        have he' : x.toList.isEmpty = true := by rw [he]; rfl
        have HE : Hid (x.toList = []) := he
        clear he
        go_wp2
        go_ret2
        refine ⟨res_none ?_, rfl⟩
        rw [HP.out, if_pos]
        exact Or.inl HE.out

theorem number_any (s : ByteArray) (w : World) (hs : s.size ≤ maxLen) :
    Calls Tryz.prog 86 #[.string s] w fun e w' => e = .returned (.tuple #[.int .i64 ((numOf s.toList).getD 0), .bool (numOf s.toList).isSome]) ∧ w' = w := by
  by_cases h0 : 0 < s.size
  · by_cases hm : ((s[0].toNat : Int) == 45) = true
    · exact number_minus s w hs h0 hm
    · exact number_plain s w hs h0 (by simpa using hm)
  · exact number_empty s w (by omega)

end Go.Proofs.YtihpglkehkgioaaGreatDoor

/- The reader of the document's own answer in memory: its block, the tokens' block, the names' block. -/
namespace Go.Proofs.YtihpglkehkgioaaGreatDoor
open Go.RowKit Ar

/-- Where a reader's things lie: its own block, the tokens' block and capacity, the names' block and capacity; the names. -/
structure Ctx where
  rb : Nat
  tb : Nat
  n : Nat
  tc : Nat
  nb : Nat
  nc : Nat
  N : List Nm

/-- The tokens from the i-th place of block tb on. -/
def Toks (w : World) (tb : Nat) : Nat → List Tk → Prop
  | _, [] => True
  | i, t :: ts => w.cell? ⟨tb, i * 2, none⟩ = some (.int .i64 t.pos) ∧ w.cell? ⟨tb, i * 2 + 1, none⟩ = some (.string t.txt) ∧ t.txt.size ≤ 600 ∧ Toks w tb (i + 1) ts

/-- The names from the i-th place of block nb on: a name, its arity, a frame. -/
def Names (w : World) (nb : Nat) (N : List Nm) : Prop :=
  ∀ i x, N[i]? = some x → w.cell? ⟨nb, i * 3, none⟩ = some (.string x.name) ∧ w.cell? ⟨nb, i * 3 + 1, none⟩ = some (.int .i64 x.ar) ∧ 0 ≤ x.ar ∧ x.ar ≤ 3

/-- A reader that stands ahead of the tokens ts, d brackets deep, with an error (0: none) and its place. -/
structure Rd (w : World) (c : Ctx) (ts : List Tk) (d err pl : Int) : Prop where
  wf : TW ts
  dlo : 0 ≤ d
  dhi : d ≤ 30
  tbn : ¬ c.tb = c.rb
  nbn : ¬ c.nb = c.rb
  tbs : c.tb < w.heap.size
  nbs : c.nb < w.heap.size
  few : c.N.length ≤ 20
  names : Names w c.nb c.N
  here : ∃ i : Nat, i + ts.length = c.n ∧ c.n ≤ 601 ∧ Toks w c.tb i ts ∧
    w.heap[c.rb]? = some (.cells #[.slice (some ⟨c.tb, 0, none⟩) c.n c.tc, .int .i64 i, .int .i64 d, .slice (some ⟨c.nb, 0, none⟩) c.N.length c.nc, .int .i64 err, .int .i64 pl] 163)

theorem cell_of_block {w : World} {b : Nat} {cs : Array Value} {t : TypeId} (h : w.heap[b]? = some (.cells cs t)) (o : Nat) : w.cell? ⟨b, o, none⟩ = cs[o]? := by
  simp [World.cell?, h]

theorem frozen_of_block {w : World} {b : Nat} {cs : Array Value} {t : TypeId} (h : w.heap[b]? = some (.cells cs t)) (o : Nat) : w.frozen? ⟨b, o, none⟩ = false := by
  simp [World.frozen?, h]

theorem block_setCell {w : World} {b : Nat} {cs : Array Value} {t : TypeId} (h : w.heap[b]? = some (.cells cs t)) (o : Nat) (v : Value) : (w.setCell ⟨b, o, none⟩ v).heap[b]? = some (.cells (cs.setIfInBounds o v) t) := by
  simp [World.setCell, Array.getElem?_modify, h]

theorem Toks.ext {w w' : World} {S : Nat → Prop} {tb : Nat} (h : Ext S w w') (hb : tb < w.heap.size) (hS : ¬ S tb) : ∀ {ts : List Tk} {i : Nat}, Toks w tb i ts → Toks w' tb i ts
  | [], _, _ => trivial
  | _ :: _, _, ht => ⟨(h.cell (p := ⟨tb, _, none⟩) hb hS).trans ht.1, (h.cell (p := ⟨tb, _, none⟩) hb hS).trans ht.2.1, ht.2.2.1, Toks.ext h hb hS ht.2.2.2⟩

theorem Names.ext {w w' : World} {S : Nat → Prop} {nb : Nat} {N : List Nm} (h : Ext S w w') (hb : nb < w.heap.size) (hS : ¬ S nb) (hn : Names w nb N) : Names w' nb N :=
  fun i x hx => ⟨(h.cell (p := ⟨nb, _, none⟩) hb hS).trans (hn i x hx).1, (h.cell (p := ⟨nb, _, none⟩) hb hS).trans (hn i x hx).2.1, (hn i x hx).2.2⟩

end Go.Proofs.YtihpglkehkgioaaGreatDoor

/- The reader of the document's own answer: its small methods. -/
namespace Go.Proofs.YtihpglkehkgioaaGreatDoor
open Go.RowKit

set_option maxHeartbeats 400000 in
theorem next_any (w : World) (rb tb n cap : Nat) (i : Nat) (s : ByteArray) (hi : i < n)
    (c0 : w.cell? ⟨rb, 0, none⟩ = some (.slice (some ⟨tb, 0, none⟩) n cap)) (c1 : w.cell? ⟨rb, 1, none⟩ = some (.int .i64 i))
    (ct : w.cell? ⟨tb, i * 2 + 1, none⟩ = some (.string s)) :
    Calls Tryz.prog 72 #[.pointer (some ⟨rb, 0, none⟩)] w fun e w' => e = .returned (.string s) ∧ ∃ n, w' = w.drewN n := by
  go_enter Tryz.func72, Tryz.ntmps72
  go_wp2
  go_quiet (fail)
  go_wp2
  go_ret
  exact ⟨rfl, _, rfl⟩

set_option maxHeartbeats 400000 in
theorem fail_dead (w : World) (rb : Nat) (e : Int) (k : Int) (hk : ¬ k = 0)
    (c4 : w.cell? ⟨rb, 4, none⟩ = some (.int .i64 k)) :
    Calls Tryz.prog 73 #[.pointer (some ⟨rb, 0, none⟩), .int .i64 e] w fun en w' => en = .returned (.tuple #[]) ∧ w' = w := by
  go_enter Tryz.func73, Tryz.ntmps73
  go_wp2
  go_end0
  exact ⟨rfl, rfl⟩

set_option maxHeartbeats 400000 in
theorem fail_live (w : World) (rb tb n cap : Nat) (i : Nat) (e : Int) (pl : Int) (ol : Value) (hi : i < n)
    (c0 : w.cell? ⟨rb, 0, none⟩ = some (.slice (some ⟨tb, 0, none⟩) n cap)) (c1 : w.cell? ⟨rb, 1, none⟩ = some (.int .i64 i))
    (c4 : w.cell? ⟨rb, 4, none⟩ = some (.int .i64 0)) (f4 : w.frozen? ⟨rb, 4, none⟩ = false)
    (c5 : w.cell? ⟨rb, 5, none⟩ = some ol) (f5 : w.frozen? ⟨rb, 5, none⟩ = false) (hne : ¬ tb = rb)
    (ct : w.cell? ⟨tb, i * 2, none⟩ = some (.int .i64 pl)) :
    Calls Tryz.prog 73 #[.pointer (some ⟨rb, 0, none⟩), .int .i64 e] w fun en w' => en = .returned (.tuple #[]) ∧ ∃ n, w' = ((w.setCell ⟨rb, 4, none⟩ (.int .i64 e)).setCell ⟨rb, 5, none⟩ (.int .i64 pl)).drewN n := by
  go_enter Tryz.func73, Tryz.ntmps73
  go_wp2
  go_region
  go_outline
  all_goals (go_end0; exact ⟨rfl, 1, rfl⟩)

end Go.Proofs.YtihpglkehkgioaaGreatDoor
