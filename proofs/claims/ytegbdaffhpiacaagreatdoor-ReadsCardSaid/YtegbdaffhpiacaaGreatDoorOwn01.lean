/- Plain functions on bytes and tokens: what a name is, what a number is, how a formula is read, the one form. No program is named here. -/
namespace Go.Proofs.YtegbdaffhpiacaaGreatDoor
namespace Ar

/-- A token: where it begins, what it is (empty: the end). -/
structure Tk where
  pos : Nat
  txt : ByteArray

/-- What is declared: a name and how many arguments it has. -/
structure Nm where
  name : ByteArray
  ar : Int
  fr : Int

def wTrue : List UInt8 := [116, 114, 117, 101]
def wFalse : List UInt8 := [102, 97, 108, 115, 101]
def wNot : List UInt8 := [110, 111, 116]
def wAnd : List UInt8 := [97, 110, 100]
def wOr : List UInt8 := [111, 114]
def wIff : List UInt8 := [105, 102, 102]
def wLe : List UInt8 := [108, 101]

def isWord (l : List UInt8) : Bool := l == wTrue || l == wFalse || l == wNot || l == wAnd || l == wOr || l == wIff || l == wLe
def letter (c : UInt8) : Bool := decide (97 ≤ (c.toNat : Int) ∧ (c.toNat : Int) ≤ 122)
def digit (c : UInt8) : Bool := decide (48 ≤ (c.toNat : Int) ∧ (c.toNat : Int) ≤ 57)
/-- Is it a name? -/
def isName (l : List UInt8) : Bool := l.all letter && !isWord l && (decide (1 ≤ l.length) && decide (l.length ≤ 8))

/-- What digits mean; 1001 stands for all that is greater than 1000. -/
def val (l : List UInt8) : Int := l.foldl (fun v c => min (v * 10 + ((c.toNat : Int) - 48)) 1001) 0
def unMinus (l : List UInt8) : List UInt8 := if l.head? = some 45 then l.tail else l
/-- Is it written as a number, and which one (1001, -1001: too great)? -/
def numOf (l : List UInt8) : Option Int :=
  if unMinus l = [] ∨ (unMinus l).all digit = false ∨ ((unMinus l).head? = some 48 ∧ l ≠ [48]) then none
  else some (if l.head? = some 45 then - val (unMinus l) else val (unMinus l))

def isBl (c : UInt8) : Bool := c == 32 || c == 9 || c == 10
def isBr (c : UInt8) : Bool := c == 40 || c == 41

/-- A formula or a term as a tree: its kind (0 true or false, 1 a connective, 2 an atom, 3 a name, 4 a number, 5 the number of a le), its word, its number, its parts. -/
inductive Nd where
  | mk (kind : Int) (word : ByteArray) (val : Int) (parts : List Nd)

/-- What reading gives: a thing and the tokens behind it, or an error and its place. -/
inductive Rs (α : Type) where
  | ok (a : α) (ts : List Tk)
  | no (err : Int) (pos : Nat)

def arOf (N : List Nm) (l : List UInt8) : Option Int := (N.find? (fun x => x.name.toList == l)).map (·.ar)

def rdNum (k : Int) : List Tk → Rs Nd
  | [] => .no 0 0
  | t :: ts =>
    match numOf t.txt.toList with
    | none => .no 2 t.pos
    | some v => if v < -1000 ∨ 1000 < v then .no 5 t.pos else .ok (.mk k ByteArray.empty v []) ts

def rdRow : List (List Tk → Rs Nd) → List Tk → Rs (List Nd)
  | [], ts => .ok [] ts
  | f :: fs, ts =>
    match f ts with
    | .no e p => .no e p
    | .ok a ts' =>
      match rdRow fs ts' with
      | .no e p => .no e p
      | .ok as ts'' => .ok (a :: as) ts''

def rdArg (f : List Tk → Rs Nd) : List Tk → Rs Nd
  | [] => .no 0 0
  | t :: ts => if t.txt.toList = [41] then .no 4 t.pos else f (t :: ts)

/-- A closing isBr must come; what any other token is there. -/
def rdShut (e : Int) (k : Int) (w : ByteArray) (ps : List Nd) : List Tk → Rs Nd
  | [] => .no 0 0
  | v :: vs => if v.txt.toList = [41] then .ok (.mk k w 0 ps) vs else if v.txt.toList = [] then .no 2 v.pos else .no e v.pos

def rdCloses (e : Int) (k : Int) (w : ByteArray) : Rs (List Nd) → Rs Nd
  | .no e p => .no e p
  | .ok ps ts => rdShut e k w ps ts

def rdTerm (N : List Nm) : Nat → Int → List Tk → Rs Nd
  | 0, _, _ => .no 0 0
  | _ + 1, _, [] => .no 0 0
  | n + 1, d, t :: ts =>
    if t.txt.toList = [40] then
      if 30 ≤ d then .no 6 t.pos else
      match ts with
      | [] => .no 0 0
      | u :: us =>
        if isName u.txt.toList then
          match arOf N u.txt.toList with
          | none => .no 3 u.pos
          | some a => if a = 0 then .no 4 u.pos else rdCloses 4 3 u.txt (rdRow (List.replicate a.toNat (rdArg (rdTerm N n (d + 1)))) us)
        else .no 2 u.pos
    else if isName t.txt.toList then
      match arOf N t.txt.toList with
      | none => .no 3 t.pos
      | some a => if a = 0 then .ok (.mk 3 t.txt 0 []) ts else .no 4 t.pos
    else rdNum 4 (t :: ts)

/-- The kind and the shape of a bracketed formula by its first word (0: one formula, 1: two, 2: any number, 3: two terms, 4: two terms and a number). -/
def hdOf (l : List UInt8) : Option (Int × Int) :=
  if l = wNot then some (1, 0) else if l = wAnd then some (1, 2) else if l = wOr then some (1, 2)
  else if l = [61, 62] then some (1, 1) else if l = wIff then some (1, 1)
  else if l = [61] then some (2, 3) else if l = [60] then some (2, 3) else if l = [60, 61] then some (2, 3)
  else if l = wLe then some (2, 4) else none

def rdUpTo : Nat → (List Tk → Rs Nd) → List Tk → Rs (List Nd)
  | 0, _, _ => .no 0 0
  | _ + 1, _, [] => .no 0 0
  | m + 1, f, t :: ts =>
    if t.txt.toList = [41] then .ok [] (t :: ts) else
    match f (t :: ts) with
    | .no e p => .no e p
    | .ok a ts' =>
      match rdUpTo m f ts' with
      | .no e p => .no e p
      | .ok as ts'' => .ok (a :: as) ts''

def rdParts (s : Int) (m : Nat) (F T B : List Tk → Rs Nd) (ts : List Tk) : Rs (List Nd) :=
  if s = 0 then rdRow [F] ts else if s = 1 then rdRow [F, F] ts else if s = 3 then rdRow [T, T] ts else if s = 4 then rdRow [T, T, B] ts else rdUpTo m F ts

def rdForm (N : List Nm) : Nat → Int → List Tk → Rs Nd
  | 0, _, _ => .no 0 0
  | _ + 1, _, [] => .no 0 0
  | n + 1, d, t :: ts =>
    if t.txt.toList = [40] then
      if 30 ≤ d then .no 6 t.pos else
      match ts with
      | [] => .no 0 0
      | u :: us =>
        match hdOf u.txt.toList with
        | none => .no 2 u.pos
        | some ks => rdCloses 2 ks.1 u.txt (rdParts ks.2 n (rdForm N n (d + 1)) (rdTerm N n (d + 1)) (rdNum 5) us)
    else if t.txt.toList = wTrue ∨ t.txt.toList = wFalse then .ok (.mk 0 t.txt 0 []) ts
    else .no 2 t.pos

/-- The tokens are not empty but for the last one. -/
def TW : List Tk → Prop
  | [] => False
  | [t] => t.txt.toList = []
  | t :: u :: ts => t.txt.toList ≠ [] ∧ TW (u :: ts)

theorem TW.tail {t : Tk} {ts : List Tk} (h : TW (t :: ts)) (ht : t.txt.toList ≠ []) : TW ts := by
  cases ts with
  | nil => exact absurd h ht
  | cons u us => exact h.2

theorem TW.ne {ts : List Tk} (h : TW ts) : ts ≠ [] := by
  intro e; subst e; exact h

theorem TW.last {t : Tk} {ts : List Tk} (h : TW (t :: ts)) (ht : t.txt.toList = []) : ts = [] := by
  cases ts with
  | nil => rfl
  | cons u us => exact absurd ht h.1

end Ar
end Go.Proofs.YtegbdaffhpiacaaGreatDoor
