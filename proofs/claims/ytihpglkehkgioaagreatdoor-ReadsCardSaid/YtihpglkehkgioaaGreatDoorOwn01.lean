/- Plain functions on bytes and tokens: what a name is, what a number is, how a formula is read, the one form. No program is named here; Plain facts about worlds: what stays as it was where a call writes only into blocks of a given kind; Bytes: lemmas on lists of bytes; Small leaf functions: what each call gives, in every world; The document's own answer: what a name is. -/
import Derived.WalkKit
import Derived.WalkSpells
import Derived.WalkLawsBesides
import Derived.Deep.QuietTactic
import Derived.BigQuiet
import Derived.Lib.Strings
import Derived.Test.YtihpglkehkgioaaGreatDoorProg
/- Plain functions on bytes and tokens: what a name is, what a number is, how a formula is read, the one form. No program is named here. -/
namespace Go.Proofs.YtihpglkehkgioaaGreatDoor
namespace Ar

/-- A token: where it begins, what it is (empty: the end). -/
structure Tk where
  pos : Nat
  txt : ByteArray

/-- What is declared: a name and how many arguments it has. -/
structure Nm where
  name : ByteArray
  ar : Int
  fr : Int

def wTrue : List UInt8 := [116, 114, 117, 101]
def wFalse : List UInt8 := [102, 97, 108, 115, 101]
def wNot : List UInt8 := [110, 111, 116]
def wAnd : List UInt8 := [97, 110, 100]
def wOr : List UInt8 := [111, 114]
def wIff : List UInt8 := [105, 102, 102]
def wLe : List UInt8 := [108, 101]

def isWord (l : List UInt8) : Bool := l == wTrue || l == wFalse || l == wNot || l == wAnd || l == wOr || l == wIff || l == wLe
def letter (c : UInt8) : Bool := decide (97 ≤ (c.toNat : Int) ∧ (c.toNat : Int) ≤ 122)
def digit (c : UInt8) : Bool := decide (48 ≤ (c.toNat : Int) ∧ (c.toNat : Int) ≤ 57)
/-- Is it a name? -/
def isName (l : List UInt8) : Bool := l.all letter && !isWord l && (decide (1 ≤ l.length) && decide (l.length ≤ 8))

/-- What digits mean; 1001 stands for all that is greater than 1000. -/
def val (l : List UInt8) : Int := l.foldl (fun v c => min (v * 10 + ((c.toNat : Int) - 48)) 1001) 0
def unMinus (l : List UInt8) : List UInt8 := if l.head? = some 45 then l.tail else l
/-- Is it written as a number, and which one (1001, -1001: too great)? -/
def numOf (l : List UInt8) : Option Int :=
  if unMinus l = [] ∨ (unMinus l).all digit = false ∨ ((unMinus l).head? = some 48 ∧ l ≠ [48]) then none
  else some (if l.head? = some 45 then - val (unMinus l) else val (unMinus l))

def isBl (c : UInt8) : Bool := c == 32 || c == 9 || c == 10
def isBr (c : UInt8) : Bool := c == 40 || c == 41

/-- A formula or a term as a tree: its kind (0 true or false, 1 a connective, 2 an atom, 3 a name, 4 a number, 5 the number of a le), its word, its number, its parts. -/
inductive Nd where
  | mk (kind : Int) (word : ByteArray) (val : Int) (parts : List Nd)

/-- What reading gives: a thing and the tokens behind it, or an error and its place. -/
inductive Rs (α : Type) where
  | ok (a : α) (ts : List Tk)
  | no (err : Int) (pos : Nat)

def arOf (N : List Nm) (l : List UInt8) : Option Int := (N.find? (fun x => x.name.toList == l)).map (·.ar)

def rdNum (k : Int) : List Tk → Rs Nd
  | [] => .no 0 0
  | t :: ts =>
    match numOf t.txt.toList with
    | none => .no 2 t.pos
    | some v => if v < -1000 ∨ 1000 < v then .no 5 t.pos else .ok (.mk k ByteArray.empty v []) ts

def rdRow : List (List Tk → Rs Nd) → List Tk → Rs (List Nd)
  | [], ts => .ok [] ts
  | f :: fs, ts =>
    match f ts with
    | .no e p => .no e p
    | .ok a ts' =>
      match rdRow fs ts' with
      | .no e p => .no e p
      | .ok as ts'' => .ok (a :: as) ts''

def rdArg (f : List Tk → Rs Nd) : List Tk → Rs Nd
  | [] => .no 0 0
  | t :: ts => if t.txt.toList = [41] then .no 4 t.pos else f (t :: ts)

/-- A closing isBr must come; what any other token is there. -/
def rdShut (e : Int) (k : Int) (w : ByteArray) (ps : List Nd) : List Tk → Rs Nd
  | [] => .no 0 0
  | v :: vs => if v.txt.toList = [41] then .ok (.mk k w 0 ps) vs else if v.txt.toList = [] then .no 2 v.pos else .no e v.pos

def rdCloses (e : Int) (k : Int) (w : ByteArray) : Rs (List Nd) → Rs Nd
  | .no e p => .no e p
  | .ok ps ts => rdShut e k w ps ts

def rdTerm (N : List Nm) : Nat → Int → List Tk → Rs Nd
  | 0, _, _ => .no 0 0
  | _ + 1, _, [] => .no 0 0
  | n + 1, d, t :: ts =>
    if t.txt.toList = [40] then
      if 30 ≤ d then .no 6 t.pos else
      match ts with
      | [] => .no 0 0
      | u :: us =>
        if isName u.txt.toList then
          match arOf N u.txt.toList with
          | none => .no 3 u.pos
          | some a => if a = 0 then .no 4 u.pos else rdCloses 4 3 u.txt (rdRow (List.replicate a.toNat (rdArg (rdTerm N n (d + 1)))) us)
        else .no 2 u.pos
    else if isName t.txt.toList then
      match arOf N t.txt.toList with
      | none => .no 3 t.pos
      | some a => if a = 0 then .ok (.mk 3 t.txt 0 []) ts else .no 4 t.pos
    else rdNum 4 (t :: ts)

/-- The kind and the shape of a bracketed formula by its first word (0: one formula, 1: two, 2: any number, 3: two terms, 4: two terms and a number). -/
def hdOf (l : List UInt8) : Option (Int × Int) :=
  if l = wNot then some (1, 0) else if l = wAnd then some (1, 2) else if l = wOr then some (1, 2)
  else if l = [61, 62] then some (1, 1) else if l = wIff then some (1, 1)
  else if l = [61] then some (2, 3) else if l = [60] then some (2, 3) else if l = [60, 61] then some (2, 3)
  else if l = wLe then some (2, 4) else none

def rdUpTo : Nat → (List Tk → Rs Nd) → List Tk → Rs (List Nd)
  | 0, _, _ => .no 0 0
  | _ + 1, _, [] => .no 0 0
  | m + 1, f, t :: ts =>
    if t.txt.toList = [41] then .ok [] (t :: ts) else
    match f (t :: ts) with
    | .no e p => .no e p
    | .ok a ts' =>
      match rdUpTo m f ts' with
      | .no e p => .no e p
      | .ok as ts'' => .ok (a :: as) ts''

def rdParts (s : Int) (m : Nat) (F T B : List Tk → Rs Nd) (ts : List Tk) : Rs (List Nd) :=
  if s = 0 then rdRow [F] ts else if s = 1 then rdRow [F, F] ts else if s = 3 then rdRow [T, T] ts else if s = 4 then rdRow [T, T, B] ts else rdUpTo m F ts

def rdForm (N : List Nm) : Nat → Int → List Tk → Rs Nd
  | 0, _, _ => .no 0 0
  | _ + 1, _, [] => .no 0 0
  | n + 1, d, t :: ts =>
    if t.txt.toList = [40] then
      if 30 ≤ d then .no 6 t.pos else
      match ts with
      | [] => .no 0 0
      | u :: us =>
        match hdOf u.txt.toList with
        | none => .no 2 u.pos
        | some ks => rdCloses 2 ks.1 u.txt (rdParts ks.2 n (rdForm N n (d + 1)) (rdTerm N n (d + 1)) (rdNum 5) us)
    else if t.txt.toList = wTrue ∨ t.txt.toList = wFalse then .ok (.mk 0 t.txt 0 []) ts
    else .no 2 t.pos

/-- The tokens are not empty but for the last one. -/
def TW : List Tk → Prop
  | [] => False
  | [t] => t.txt.toList = []
  | t :: u :: ts => t.txt.toList ≠ [] ∧ TW (u :: ts)

theorem TW.tail {t : Tk} {ts : List Tk} (h : TW (t :: ts)) (ht : t.txt.toList ≠ []) : TW ts := by
  cases ts with
  | nil => exact absurd h ht
  | cons u us => exact h.2

theorem TW.ne {ts : List Tk} (h : TW ts) : ts ≠ [] := by
  intro e; subst e; exact h

theorem TW.last {t : Tk} {ts : List Tk} (h : TW (t :: ts)) (ht : t.txt.toList = []) : ts = [] := by
  cases ts with
  | nil => rfl
  | cons u us => exact absurd ht h.1

end Ar
end Go.Proofs.YtihpglkehkgioaaGreatDoor

/- Plain facts about worlds: what stays as it was where a call writes only into blocks of a given kind. -/
namespace Go.Proofs.YtihpglkehkgioaaGreatDoor
open Go.RowKit

theorem hide {p : Prop} (h : p) : Hid p := h

/-- Every old block that is not in S is as it was. -/
structure Ext (S : Nat → Prop) (w w' : World) : Prop where
  os : w'.os = w.os
  tape : w'.tape = w.tape
  output : w'.output = w.output
  size : w.heap.size ≤ w'.heap.size
  block : ∀ k, k < w.heap.size → ¬ S k → w'.heap[k]? = w.heap[k]?

theorem Ext.refl (S : Nat → Prop) (w : World) : Ext S w w := ⟨rfl, rfl, rfl, Nat.le_refl _, fun _ _ _ => rfl⟩

theorem Ext.trans {S : Nat → Prop} {a b c : World} (h : Ext S a b) (k : Ext S b c) : Ext S a c :=
  ⟨k.os.trans h.os, k.tape.trans h.tape, k.output.trans h.output, Nat.le_trans h.size k.size, fun i hi hs => (k.block i (Nat.lt_of_lt_of_le hi h.size) hs).trans (h.block i hi hs)⟩

/-- A second step that may also write into blocks that were not there at the first. -/
theorem Ext.trans' {S T : Nat → Prop} {a b c : World} (h : Ext S a b) (k : Ext T b c) (hT : ∀ i, i < a.heap.size → T i → S i) : Ext S a c :=
  ⟨k.os.trans h.os, k.tape.trans h.tape, k.output.trans h.output, Nat.le_trans h.size k.size, fun i hi hs => (k.block i (Nat.lt_of_lt_of_le hi h.size) (fun t => hs (hT i hi t))).trans (h.block i hi hs)⟩

theorem Ext.mono {S T : Nat → Prop} {a b : World} (h : Ext S a b) (hT : ∀ i, i < a.heap.size → S i → T i) : Ext T a b :=
  ⟨h.os, h.tape, h.output, h.size, fun i hi hs => h.block i hi (fun s => hs (hT i hi s))⟩

theorem Ext.drew {S : Nat → Prop} {a w : World} (h : Ext S a w) : Ext S a w.drew := ⟨h.os, h.tape, h.output, h.size, h.block⟩

theorem Ext.drewN {S : Nat → Prop} {a w : World} (h : Ext S a w) (n : Nat) : Ext S a (w.drewN n) := ⟨h.os, h.tape, h.output, h.size, h.block⟩

theorem Ext.alloc {S : Nat → Prop} {a w : World} (h : Ext S a w) (o : Obj) : Ext S a (w.alloc o) :=
  h.trans ⟨rfl, rfl, rfl, by simp, fun k hk _ => Below.heap_alloc _ _ _ hk⟩

theorem Ext.setCell {S : Nat → Prop} {a w : World} (h : Ext S a w) {p : Addr} (hp : p.block < a.heap.size → S p.block) (u : Value) : Ext S a (w.setCell p u) :=
  h.trans' (T := fun i => i = p.block) ⟨rfl, rfl, rfl, by simp [World.setCell], fun k _ hs => Below.heap_setCell _ _ _ _ hs⟩ (fun i hi e => by subst e; exact hp hi)

theorem Ext.cell {S : Nat → Prop} {w w' : World} (h : Ext S w w') {p : Addr} (hp : p.block < w.heap.size) (hs : ¬ S p.block) : w'.cell? p = w.cell? p := World.cell?_of_block (w := w) (h.block p.block hp hs)

theorem Ext.frozen {S : Nat → Prop} {w w' : World} (h : Ext S w w') {p : Addr} (hp : p.block < w.heap.size) (hs : ¬ S p.block) : w'.frozen? p = w.frozen? p := World.frozen?_of_block (w := w) (h.block p.block hp hs)

end Go.Proofs.YtihpglkehkgioaaGreatDoor

/- Bytes: lemmas on lists of bytes. -/
namespace Go.Proofs.YtihpglkehkgioaaGreatDoor
open Go.RowKit

theorem len_toList (s : ByteArray) : s.toList.length = s.size := by
  rw [ByteArray.toList_eq]; exact (Lib.size_eq s).symm

theorem toList_snoc (s : ByteArray) (k : Nat) (h : k < s.size) : s.toList.take (k + 1) = s.toList.take k ++ [s[k]] := by
  rw [ByteArray.toList_eq, List.take_succ_eq_append_getElem (by rw [← Lib.size_eq]; exact h)]; rfl

theorem toList_whole (s : ByteArray) (k : Nat) (h : s.size ≤ k) : s.toList.take k = s.toList := by
  rw [List.take_of_length_le]; rw [len_toList]; exact h

theorem bytes_ext {a b : ByteArray} (h : a.toList = b.toList) : a = b := by
  rw [ByteArray.toList_eq, ByteArray.toList_eq] at h
  cases a; cases b; simp_all

theorem all_false_of_take {p : UInt8 → Bool} {l : List UInt8} {k : Nat} (h : (l.take k).all p = false) : l.all p = false := by
  rw [← List.take_append_drop k l, List.all_append, h]; rfl

/-- All bytes up to the k-th one meet p, and the k-th does not. -/
theorem all_false_at (s : ByteArray) (p : UInt8 → Bool) (k : Nat) (h : k < s.size) (hp : p s[k] = false) : s.toList.all p = false := by
  apply all_false_of_take (k := k + 1)
  rw [toList_snoc s k h, List.all_append]; simp [hp]

theorem all_true_snoc (s : ByteArray) (p : UInt8 → Bool) (k : Nat) (h : k < s.size) (ha : (s.toList.take k).all p = true) (hp : p s[k] = true) : (s.toList.take (k + 1)).all p = true := by
  rw [toList_snoc s k h, List.all_append, ha]; simp [hp]

theorem ret_bool {a b : Bool} (h : a = b) : Ending.returned (.bool a) = .returned (.bool b) := by rw [h]
theorem ret_int {k : IntKind} {a b : Int} (h : a = b) : Ending.returned (.int k a) = .returned (.int k b) := by rw [h]

end Go.Proofs.YtihpglkehkgioaaGreatDoor

/- Small leaf functions: what each call gives, in every world. -/
namespace Go.Proofs.YtihpglkehkgioaaGreatDoor
open Go.RowKit Ar

set_option maxHeartbeats 400000 in
theorem num_any (a : Int) (w : World) :
    Calls Tryz.prog 22 #[.int .i64 a] w fun e w' => e = .returned (.int .i64 a) ∧ w' = w := by
  go_enter Tryz.func22, Tryz.ntmps22
  go_wp2
  go_ret
  exact ⟨rfl, rfl⟩

theorem bl_int (c : UInt8) : ((c.toNat : Int) == 32 || (c.toNat : Int) == 9 || (c.toNat : Int) == 10) = isBl c := by
  have h : ∀ (n : Nat) (k : Int), (n : Int) = k → n < 256 → ((c.toNat : Int) == k) = (c == UInt8.ofNat n) := by
    intro n k hk hn
    subst hk
    rw [Bool.eq_iff_iff]
    simp only [beq_iff_eq]
    constructor
    · intro e
      apply UInt8.toNat_inj.1
      rw [UInt8.toNat_ofNat']
      omega
    · intro e
      rw [e, UInt8.toNat_ofNat']
      omega
  unfold isBl
  rw [h 32 32 rfl (by omega), h 9 9 rfl (by omega), h 10 10 rfl (by omega)]
  rfl

set_option maxHeartbeats 400000 in
theorem blank_any (c : UInt8) (w : World) :
    Calls Tryz.prog 97 #[.int .u8 c.toNat] w fun e w' => e = .returned (.bool (isBl c)) ∧ w' = w := by
  rw [← bl_int]
  go_enter Tryz.func97, Tryz.ntmps97
  go_wp2
  all_goals
    go_ret
    refine ⟨?_, rfl⟩
    first
      | rfl
      | (apply ret_bool; simp_all; done)

end Go.Proofs.YtihpglkehkgioaaGreatDoor

/- The document's own answer: what a name is. -/
namespace Go.Proofs.YtihpglkehkgioaaGreatDoor
open Go.RowKit Ar

theorem name_no (l : List UInt8) (h : l.all letter = false) : isName l = false := by simp [isName, h]

theorem name_yes (l : List UInt8) (n : Nat) (hn : l.length = n) (h : l.all letter = true) (hw : isWord l = false) (h1 : 1 ≤ (n : Int)) : decide ((n : Int) ≤ 8) = isName l := by
  have h2 : 1 ≤ l.length := by omega
  simp only [isName, h, hw, h2]
  rw [Bool.eq_iff_iff]; simp; omega

theorem name_short (l : List UInt8) (n : Nat) (hn : l.length = n) (h1 : (n : Int) < 1) : false = isName l := by
  have h2 : ¬ 1 ≤ l.length := by omega
  simp [isName, h2]

set_option maxHeartbeats 1000000 in
theorem isName_any (s : ByteArray) (w : World) (hs : s.size ≤ maxLen) :
    Calls Tryz.prog 43 #[.string s] w fun e w' => e = .returned (.bool (isName s.toList)) ∧ w' = w := by
  unfold maxLen at hs
  go_enter Tryz.func43, Tryz.ntmps43
  go_wp2
  go_loop [3] (fun i => ∃ k : Nat, k ≤ s.size ∧ i = .int .i64 k ∧ (s.toList.take k).all letter = true) (fun i => s.size - (intOf i).toNat)
  case atStart => exact ⟨0, Nat.zero_le _, rfl, rfl⟩
  case round =>
    obtain ⟨k, hk, rfl, ha⟩ := hrel
    have HA : Hid ((s.toList.take k).all letter = true) := ha
    clear ha
    by_cases hlt : k < s.size
    · go_wp2
      case roundEnd => exact ⟨⟨k + 1, by omega, by go_num, all_true_snoc s letter k hlt HA.out (by simp [letter]; omega)⟩, by simp [intOf]; omega⟩
      all_goals
        go_ret
        exact ⟨ret_bool (name_no _ (all_false_at s letter k hlt (by simp [letter]; omega))).symm, rfl⟩
    · have HL : Hid (s.toList.all letter = true) := by
        have h1 := HA.out
        rw [toList_whole s k (by omega)] at h1
        exact h1
      have HZ : Hid (s.toList.length = s.size) := len_toList s
      clear HA
      go_wp2
      all_goals
        go_ret
        refine ⟨ret_bool ?_, rfl⟩
        first
          | decide
          | (have h1 := HL.out; have h2 := HZ.out; simp_all [isName, isWord, wTrue, wFalse, wNot, wAnd, wOr, wIff, wLe]; done)
          | (refine name_short _ _ HZ.out ?_; assumption)
          | (refine name_yes _ _ HZ.out HL.out ?_ ?_; simp_all [isWord, wTrue, wFalse, wNot, wAnd, wOr, wIff, wLe]; assumption)

end Go.Proofs.YtihpglkehkgioaaGreatDoor
