/- Trees of the document's own answer in memory; A number's text is its one form. -/
import Derived.Test.YtihpglkehkgioaaGreatDoorOwn05
import Derived.Test.YtihpglkehkgioaaGreatDoorOwn02
import Derived.Maps.AppendAt
import Derived.Test.YtihpglkehkgioaaGreatDoorOwn03
/- Trees of the document's own answer in memory. -/
namespace Go.Proofs.YtihpglkehkgioaaGreatDoor
open Go.RowKit Ar

theorem own_ext {S : Nat → Prop} {w w' : World} {base : Nat} {e : TypeId} {size : Nat} {v : Value} {n : Nat} {xs : List Value} (h : w.ownsRow base e size v n xs) (hx : Ext S w w') (hS : ∀ k, v.ownBlock = some k → ¬ S k) : w'.ownsRow base e size v n xs := by
  obtain ⟨h1, h2⟩ := h
  refine ⟨h1, ?_⟩
  rcases h2 with h2 | ⟨g, cap, cur, hv, hg, hh, r⟩
  · exact Or.inl h2
  · have hlt : g < w.heap.size := by
      by_cases hlt : g < w.heap.size
      · exact hlt
      · rw [Array.getElem?_eq_none (by omega)] at hh; exact absurd hh (by simp)
    exact Or.inr ⟨g, cap, cur, hv, hg, (hx.block g hlt (hS g (by rw [hv]; rfl))).trans hh, r⟩

theorem own_low {w : World} {base base' : Nat} {e : TypeId} {size : Nat} {v : Value} {n : Nat} {xs : List Value} (h : w.ownsRow base e size v n xs) (hb : base' ≤ base) : w.ownsRow base' e size v n xs := by
  obtain ⟨h1, h2⟩ := h
  refine ⟨h1, ?_⟩
  rcases h2 with h2 | ⟨g, cap, cur, hv, hg, r⟩
  · exact Or.inl h2
  · exact Or.inr ⟨g, cap, cur, hv, by omega, r⟩

/-- What an append leaves: blocks but the row's own. -/
theorem Ext.grown {S : Nat → Prop} {a w w' : World} {row : Option Nat} (h : Ext S a w) (hg : w.grownBy w' row) (hr : ∀ k, row = some k → k < a.heap.size → S k) : Ext S a w' :=
  h.trans' (T := fun k => row = some k) ⟨hg.os, hg.tape, hg.output, hg.size, fun k hk hs => hg.block k hk (fun e => hs e.symm)⟩ (fun i hi e => hr i e hi)

def kp (k : Nat) : Value := .pointer (some ⟨k, 0, none⟩)
def rwd (k : Int) (word : ByteArray) (v : Int) : ByteArray := if k = 4 then ⟨(itoa v).toArray⟩ else word
def rps (k : Int) (ps : List Nd) : List Nd := if k = 2 then ps.take 2 else ps
def rby (k : Int) (v : Int) (ps : List Nd) : Int :=
  if k = 4 then v else if k = 2 then (match ps with | [_, _, .mk _ _ x _] => x | _ => 0) else 0
def rtm (k : Int) : Bool := k == 3 || k == 4

/-- A tree lies at block b, all of it in blocks of the kind D. -/
inductive RN (w : World) (D : Nat → Prop) : Nat → Nd → Prop
  | mk {b : Nat} {k : Int} {word : ByteArray} {v : Int} {ps : List Nd} {pv : Value} {form : ByteArray} {kids : List Nat}
      (hb : w.heap[b]? = some (.cells #[.string (rwd k word v), pv, .int .i64 (rby k v ps), .bool (rtm k), .string form] 117)) (hlo : D b)
      (hf : form.toList = formOf (.mk k word v ps)) (how : w.ownsRow 0 90 1 pv (rps k ps).length (kids.map kp)) (hD : ∀ g, pv.ownBlock = some g → D g)
      (hk : ∀ (i c : Nat) (p : Nd), kids[i]? = some c → (rps k ps)[i]? = some p → RN w D c p) : RN w D b (.mk k word v ps)

theorem block_lt {w : World} {b : Nat} {o : Obj} (h : w.heap[b]? = some o) : b < w.heap.size := by
  by_cases hlt : b < w.heap.size
  · exact hlt
  · rw [Array.getElem?_eq_none (by omega)] at h; exact absurd h (by simp)

theorem RN.ext {S D : Nat → Prop} {w w' : World} {b : Nat} {nd : Nd} (h : RN w D b nd) (hx : Ext S w w') (hS : ∀ k, k < w.heap.size → D k → ¬ S k) : RN w' D b nd := by
  induction h with
  | mk hb hlo hf how hD _ ih => exact RN.mk ((hx.block _ (block_lt hb) (hS _ (block_lt hb) hlo)).trans hb) hlo hf (own_ext how hx (fun k hk => hS k (how.lt k hk).2 (hD k hk))) hD ih

theorem RN.mono {D D' : Nat → Prop} {w : World} {b : Nat} {nd : Nd} (h : RN w D b nd) (hl : ∀ k, k < w.heap.size → D k → D' k) : RN w D' b nd := by
  induction h with
  | mk hb hlo hf how hD _ ih => exact RN.mk hb (hl _ (block_lt hb) hlo) hf how (fun g hg => hl g (how.lt g hg).2 (hD g hg)) ih

/-- The block of a tree: its last cell is the one form. -/
theorem RN.form {w : World} {D : Nat → Prop} {b : Nat} {nd : Nd} (h : RN w D b nd) : ∃ x0 x1 x2 x3 f, w.heap[b]? = some (.cells #[x0, x1, x2, x3, .string f] 117) ∧ f.toList = formOf nd := by
  cases h with
  | mk hb hlo hf how hD hk => exact ⟨_, _, _, _, _, hb, hf⟩

/-- A reader that goes on, or one that has met an error. -/
def Sd (w : World) (c : Ctx) (d pl : Int) : Rs Unit → Prop
  | .ok _ ts => Rd w c ts d 0 pl
  | .no e p => (¬ e = 0) ∧ ∃ ts d', Rd w c ts d' e p

theorem Sd.some {w : World} {c : Ctx} {d pl : Int} {r : Rs Unit} (h : Sd w c d pl r) : ∃ t ts d' e p, Rd w c (t :: ts) d' e p := by
  cases r with
  | ok u ts => obtain ⟨t, us, rfl⟩ := Rd.head h; exact ⟨t, us, d, 0, pl, h⟩
  | no e p => obtain ⟨_, ts, d', h⟩ := h; obtain ⟨t, us, rfl⟩ := Rd.head h; exact ⟨t, us, d', e, p, h⟩

theorem Sd.ext {S : Nat → Prop} {w w' : World} {c : Ctx} {d pl : Int} {r : Rs Unit} (h : Sd w c d pl r) (hx : Ext S w w') (h1 : ¬ S c.rb) (h2 : ¬ S c.tb) (h3 : ¬ S c.nb) : Sd w' c d pl r := by
  cases r with
  | ok u ts => exact Rd.ext h hx h1 h2 h3
  | no e p => obtain ⟨h0, ts, d', h⟩ := h; exact ⟨h0, ts, d', h.ext hx h1 h2 h3⟩

theorem Sd.drewN {w : World} {c : Ctx} {d pl : Int} {r : Rs Unit} (h : Sd w c d pl r) (n : Nat) : Sd (w.drewN n) c d pl r :=
  h.ext (S := fun _ => False) ((Ext.refl _ w).drewN n) (fun f => f) (fun f => f) (fun f => f)

theorem Toks.mem {w : World} {tb : Nat} : ∀ {ts : List Tk} {i : Nat}, Toks w tb i ts → TS ts
  | [], _, _ => fun _ h => absurd h (by simp)
  | t :: ts, i, h => fun u hu => by
    rcases List.mem_cons.1 hu with rfl | hu
    · exact h.2.2.1
    · exact Toks.mem h.2.2.2 u hu

theorem Rd.ts {w : World} {c : Ctx} {ts : List Tk} {d err pl : Int} (h : Rd w c ts d err pl) : TS ts := by
  obtain ⟨i, hi, hn, ht, hb⟩ := h.here
  exact ht.mem

theorem Rd.len {w : World} {c : Ctx} {ts : List Tk} {d err pl : Int} (h : Rd w c ts d err pl) : ts.length ≤ 601 := by
  obtain ⟨i, hi, hn, ht, hb⟩ := h.here
  omega

/-- next, whatever the state: a short text; the next token's, if the reader goes on. -/
theorem sd_next {w : World} {c : Ctx} {d pl : Int} {r : Rs Unit} (h : Sd w c d pl r) :
    Calls Tryz.prog 72 #[.pointer (some ⟨c.rb, 0, none⟩)] w fun e w' => ∃ s : ByteArray, e = .returned (.string s) ∧ s.size ≤ 600 ∧ (∀ u t ts, r = .ok u (t :: ts) → s = t.txt) ∧ ∃ n, w' = w.drewN n := by
  cases r with
  | ok u ts =>
    obtain ⟨t, us, rfl⟩ := Rd.head h
    refine (rd_next h).mono ?_
    rintro e w' ⟨rfl, n, rfl⟩
    exact ⟨_, rfl, Rd.ts h t (List.mem_cons_self ..), fun u' t' ts' e => by injection e with e1 e2; injection e2 with e3 e4; rw [e3], n, rfl⟩
  | no e p =>
    obtain ⟨h0, ts, d', h⟩ := h
    obtain ⟨t, us, rfl⟩ := h.head
    refine (rd_next h).mono ?_
    rintro e w' ⟨rfl, n, rfl⟩
    exact ⟨_, rfl, h.ts t (List.mem_cons_self ..), fun u' t' ts' e => absurd e (by simp), n, rfl⟩

/-- What a name must be. -/
def nmStep (N : List Nm) (b : Bool) : Rs Unit → Rs Unit
  | .no e p => .no e p
  | .ok _ [] => .no 0 0
  | .ok _ (t :: ts) => if nameErr N b t.txt.toList = 0 then .ok () ts else .no (nameErr N b t.txt.toList) t.pos

theorem sd_name {w : World} {c : Ctx} {d pl : Int} {r : Rs Unit} (b : Bool) (h : Sd w c d pl r) :
    Calls Tryz.prog 99 #[.pointer (some ⟨c.rb, 0, none⟩), .bool b] w fun en w' => ∃ k : Int, en = .returned (.int .i64 k) ∧ Ext (· = c.rb) w w' ∧ Sd w' c d pl (nmStep c.N b r) ∧
      (∀ u t ts u' ts', r = .ok u (t :: ts) → nmStep c.N b r = .ok u' ts' → k = (arOf c.N t.txt.toList).getD (-1)) := by
  cases r with
  | ok u ts =>
    obtain ⟨t, us, rfl⟩ := Rd.head h
    by_cases hk : nameErr c.N b t.txt.toList = 0
    · refine (rd_name_ok b h hk).mono ?_
      rintro e w' ⟨rfl, hx, hr⟩
      refine ⟨_, rfl, hx, ?_, fun u' t' ts' u2 ts2 e _ => by injection e with e1 e2; injection e2 with e3 e4; rw [e3]⟩
      simp only [nmStep, if_pos hk]
      exact hr
    · refine (rd_name_no b h hk).mono ?_
      rintro e w' ⟨⟨k, rfl⟩, hx, hr⟩
      refine ⟨k, rfl, hx, ?_, fun u' t' ts' u2 ts2 e e' => ?_⟩
      · simp only [nmStep, if_neg hk]
        exact ⟨hk, _, _, hr⟩
      · simp only [nmStep, if_neg hk] at e'
        exact absurd e' (by simp)
  | no e p =>
    obtain ⟨h0, ts, d', h⟩ := h
    refine (rd_name_dead b h h0).mono ?_
    rintro e w' ⟨⟨k, rfl⟩, n, rfl⟩
    exact ⟨k, rfl, (Ext.refl _ w).drewN n, ⟨h0, ts, d', h.drewN n⟩, fun u' t' ts' u2 ts2 e _ => absurd e (by simp)⟩

/-- take ahead of an opening bracket. -/
theorem sd_take_open {w : World} {c : Ctx} {t : Tk} {ts : List Tk} {d pl : Int} (h : Rd w c (t :: ts) d 0 pl) (h1 : (t.txt.toList == [40]) = true) :
    Calls Tryz.prog 100 #[.pointer (some ⟨c.rb, 0, none⟩)] w fun en w' => en = .returned (.tuple #[]) ∧ Ext (· = c.rb) w w' ∧ Sd w' c (d + 1) pl (if 30 ≤ d then .no 6 t.pos else .ok () ts) := by
  by_cases hd : 30 ≤ d
  · have hd30 : d = 30 := by have := h.dhi; omega
    subst hd30
    refine (rd_take_deep h h1).mono ?_
    rintro e w' ⟨rfl, hx, hr⟩
    refine ⟨rfl, hx, ?_⟩
    rw [if_pos hd]
    exact ⟨by decide, _, _, hr⟩
  · refine (rd_take_open h h1 (by omega)).mono ?_
    rintro e w' ⟨rfl, hx, hr⟩
    refine ⟨rfl, hx, ?_⟩
    rw [if_neg hd]
    exact hr

end Go.Proofs.YtihpglkehkgioaaGreatDoor

/- A number's text is its one form. -/
namespace Go.Proofs.YtihpglkehkgioaaGreatDoor
open Ar

theorem val_app (r : List UInt8) (c : UInt8) : val (r ++ [c]) = min (val r * 10 + ((c.toNat : Int) - 48)) 1001 := by
  rw [val, List.foldl_append]; rfl

theorem dig_of {c : UInt8} (_h : 48 ≤ (c.toNat : Int)) (n : Nat) (hn : (n : Int) = (c.toNat : Int) - 48) : dig n = c := by
  unfold dig
  have e : 48 + n = c.toNat := by omega
  rw [e]; simp

theorem val_pos (r : List UInt8) (hd : r.all digit = true) (hne : r ≠ []) (hz : r.head? ≠ some 48) : 1 ≤ val r := by
  obtain ⟨c, q, rfl⟩ : ∃ c q, r = c :: q := by
    cases r with
    | nil => exact absurd rfl hne
    | cons c q => exact ⟨c, q, rfl⟩
  simp only [List.all_cons, Bool.and_eq_true] at hd
  obtain ⟨hc, hq⟩ := hd
  have hc48 : ¬ (c.toNat : Int) = 48 := by
    intro e
    apply hz
    rw [u8_of_int (c := c) (n := 48) (by omega) e]; rfl
  simp [digit] at hc
  have key : ∀ (l : List UInt8) (v : Int), l.all digit = true → 1 ≤ v → 1 ≤ l.foldl (fun v c => min (v * 10 + ((c.toNat : Int) - 48)) 1001) v := by
    intro l
    induction l with
    | nil => intro v _ h; exact h
    | cons x l ih =>
      intro v hd h
      simp only [List.all_cons, Bool.and_eq_true] at hd
      obtain ⟨hx, hl⟩ := hd
      simp [digit] at hx
      exact ih _ hl (by show 1 ≤ min (v * 10 + ((x.toNat : Int) - 48)) 1001; omega)
  unfold val
  exact key q _ hq (by show 1 ≤ min (0 * 10 + ((c.toNat : Int) - 48)) 1001; omega)

theorem itoaN_val (f : Nat) : ∀ r : List UInt8, r.all digit = true → r ≠ [] → (r.head? = some 48 → r = [48]) → val r ≤ 1000 → val r < 10 ^ (f + 1) → itoaN f (val r).toNat = r := by
  induction f with
  | zero =>
    intro r hd hne hz h1 hp
    rcases List.eq_nil_or_concat r with rfl | ⟨q, c, rfl⟩
    · exact absurd rfl hne
    · rw [List.concat_eq_append] at *
      rw [List.all_append, Bool.and_eq_true] at hd
      obtain ⟨hq, hc⟩ := hd
      simp [digit] at hc
      have hb := val_bd q hq
      rw [val_app] at h1 hp ⊢
      by_cases hqe : q = []
      · subst hqe
        have e0 : val [] = 0 := rfl
        rw [e0] at *
        rw [itoaN, dig_of (c := c) (by omega) _ (by omega)]; rfl
      · have hqz : q.head? ≠ some 48 := by
          intro e
          have := hz (by rw [List.head?_append, e]; rfl)
          cases q with
          | nil => exact hqe rfl
          | cons a b => simp at this
        have := val_pos q hq hqe hqz
        simp at hp
        omega
  | succ f ih =>
    intro r hd hne hz h1 hp
    rcases List.eq_nil_or_concat r with rfl | ⟨q, c, rfl⟩
    · exact absurd rfl hne
    · rw [List.concat_eq_append] at *
      rw [List.all_append, Bool.and_eq_true] at hd
      obtain ⟨hq, hc⟩ := hd
      simp [digit] at hc
      have hb := val_bd q hq
      rw [val_app] at h1 hp ⊢
      by_cases hqe : q = []
      · subst hqe
        have e0 : val [] = 0 := rfl
        rw [e0] at *
        rw [itoaN, if_pos (by omega), dig_of (c := c) (by omega) _ (by omega)]; rfl
      · have hqz : q.head? ≠ some 48 := by
          intro e
          have := hz (by rw [List.head?_append, e]; rfl)
          cases q with
          | nil => exact hqe rfl
          | cons a b => simp at this
        have hpos := val_pos q hq hqe hqz
        have hv : min (val q * 10 + ((c.toNat : Int) - 48)) 1001 = val q * 10 + ((c.toNat : Int) - 48) := by omega
        rw [hv] at h1 hp ⊢
        have hp2 : val q < 10 ^ (f + 1) := by
          rw [Int.pow_succ] at hp
          omega
        have e := ih q hq hqe (fun e => absurd e hqz) (by omega) hp2
        have d1 : (val q * 10 + ((c.toNat : Int) - 48)).toNat / 10 = (val q).toNat := by omega
        rw [itoaN, if_neg (by omega), d1, e, dig_of (c := c) (by omega) _ (by omega)]

theorem num_text {l : List UInt8} {v : Int} (h : numOf l = some v) (h1 : -1000 ≤ v) (h2 : v ≤ 1000) : itoa v = l := by
  unfold numOf at h
  split at h
  · exact absurd h (by simp)
  · rename_i hc
    have hd : (unMinus l).all digit = true := by
      cases hq : (unMinus l).all digit with
      | true => rfl
      | false => exact absurd (Or.inr (Or.inl hq)) hc
    have hne : unMinus l ≠ [] := fun e => hc (Or.inl e)
    have hz : (unMinus l).head? = some 48 → l = [48] := by
      intro e
      cases hq : decide (l = [48]) with
      | true => exact of_decide_eq_true hq
      | false => exact absurd (Or.inr (Or.inr ⟨e, of_decide_eq_false hq⟩)) hc
    have hb := val_bd _ hd
    by_cases hm : l.head? = some 45
    · rw [if_pos hm] at h
      have hv := Option.some.inj h
      have hu : unMinus l = l.tail := by rw [unMinus, if_pos hm]
      have hz2 : (unMinus l).head? ≠ some 48 := by
        intro e; rw [hz e] at hm; exact absurd hm (by decide)
      have hpos := val_pos _ hd hne hz2
      rw [itoa, if_pos (by omega)]
      have e1 : (-v).toNat = (val (unMinus l)).toNat := by omega
      rw [e1, itoaN_val 3 _ hd hne (fun e => absurd e hz2) (by omega) (by omega), hu]
      cases l with
      | nil => exact absurd hm (by simp)
      | cons a b => simp at hm; rw [hm]; rfl
    · rw [if_neg hm] at h
      have hv := Option.some.inj h
      have hu : unMinus l = l := by rw [unMinus, if_neg hm]
      rw [hu] at hd hne hz hb hv
      rw [itoa, if_neg (by omega), ← hv, itoaN_val 3 _ hd hne hz (by omega) (by omega)]

end Go.Proofs.YtihpglkehkgioaaGreatDoor
