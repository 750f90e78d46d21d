/- Trees of the document's own answer in memory; The reader of the document's own answer: a term that is a number; A term in brackets under way: what a round of its loop leaves; Plain lemmas on terms in brackets, and the end of one that has met an error; The document's own answer: the tokens of a text; The program: the token at a place of a text; The program: the tokens of a text. -/
import Derived.Test.YtegbdaffhpiacaaGreatDoorOwn06
import Derived.Test.YtegbdaffhpiacaaGreatDoorOwn03
import Derived.Maps.AppendAt
import Derived.Test.YtegbdaffhpiacaaGreatDoorOwn04
/- Trees of the document's own answer in memory. -/
namespace Go.Proofs.YtegbdaffhpiacaaGreatDoor
open Go.RowKit Ar

theorem own_ext {S : Nat → Prop} {w w' : World} {base : Nat} {e : TypeId} {size : Nat} {v : Value} {n : Nat} {xs : List Value} (h : w.ownsRow base e size v n xs) (hx : Ext S w w') (hS : ∀ k, v.ownBlock = some k → ¬ S k) : w'.ownsRow base e size v n xs := by
  obtain ⟨h1, h2⟩ := h
  refine ⟨h1, ?_⟩
  rcases h2 with h2 | ⟨g, cap, cur, hv, hg, hh, r⟩
  · exact Or.inl h2
  · have hlt : g < w.heap.size := by
      by_cases hlt : g < w.heap.size
      · exact hlt
      · rw [Array.getElem?_eq_none (by omega)] at hh; exact absurd hh (by simp)
    exact Or.inr ⟨g, cap, cur, hv, hg, (hx.block g hlt (hS g (by rw [hv]; rfl))).trans hh, r⟩

theorem own_low {w : World} {base base' : Nat} {e : TypeId} {size : Nat} {v : Value} {n : Nat} {xs : List Value} (h : w.ownsRow base e size v n xs) (hb : base' ≤ base) : w.ownsRow base' e size v n xs := by
  obtain ⟨h1, h2⟩ := h
  refine ⟨h1, ?_⟩
  rcases h2 with h2 | ⟨g, cap, cur, hv, hg, r⟩
  · exact Or.inl h2
  · exact Or.inr ⟨g, cap, cur, hv, by omega, r⟩

/-- What an append leaves: blocks but the row's own. -/
theorem Ext.grown {S : Nat → Prop} {a w w' : World} {row : Option Nat} (h : Ext S a w) (hg : w.grownBy w' row) (hr : ∀ k, row = some k → k < a.heap.size → S k) : Ext S a w' :=
  h.trans' (T := fun k => row = some k) ⟨hg.os, hg.tape, hg.output, hg.size, fun k hk hs => hg.block k hk (fun e => hs e.symm)⟩ (fun i hi e => hr i e hi)

def kp (k : Nat) : Value := .pointer (some ⟨k, 0, none⟩)
def rwd (k : Int) (word : ByteArray) (v : Int) : ByteArray := if k = 4 then ⟨(itoa v).toArray⟩ else word
def rps (k : Int) (ps : List Nd) : List Nd := if k = 2 then ps.take 2 else ps
def rby (k : Int) (v : Int) (ps : List Nd) : Int :=
  if k = 4 then v else if k = 2 then (match ps with | [_, _, .mk _ _ x _] => x | _ => 0) else 0
def rtm (k : Int) : Bool := k == 3 || k == 4

/-- A tree lies at block b, all of it in blocks of the kind D. -/
inductive RN (w : World) (D : Nat → Prop) : Nat → Nd → Prop
  | mk {b : Nat} {k : Int} {word : ByteArray} {v : Int} {ps : List Nd} {pv : Value} {form : ByteArray} {kids : List Nat}
      (hb : w.heap[b]? = some (.cells #[.string (rwd k word v), pv, .int .i64 (rby k v ps), .bool (rtm k), .string form] 235)) (hlo : D b)
      (hf : form.toList = formOf (.mk k word v ps)) (how : w.ownsRow 0 172 1 pv (rps k ps).length (kids.map kp)) (hD : ∀ g, pv.ownBlock = some g → D g)
      (hk : ∀ (i c : Nat) (p : Nd), kids[i]? = some c → (rps k ps)[i]? = some p → RN w D c p) : RN w D b (.mk k word v ps)

theorem block_lt {w : World} {b : Nat} {o : Obj} (h : w.heap[b]? = some o) : b < w.heap.size := by
  by_cases hlt : b < w.heap.size
  · exact hlt
  · rw [Array.getElem?_eq_none (by omega)] at h; exact absurd h (by simp)

theorem RN.ext {S D : Nat → Prop} {w w' : World} {b : Nat} {nd : Nd} (h : RN w D b nd) (hx : Ext S w w') (hS : ∀ k, k < w.heap.size → D k → ¬ S k) : RN w' D b nd := by
  induction h with
  | mk hb hlo hf how hD _ ih => exact RN.mk ((hx.block _ (block_lt hb) (hS _ (block_lt hb) hlo)).trans hb) hlo hf (own_ext how hx (fun k hk => hS k (how.lt k hk).2 (hD k hk))) hD ih

theorem RN.mono {D D' : Nat → Prop} {w : World} {b : Nat} {nd : Nd} (h : RN w D b nd) (hl : ∀ k, k < w.heap.size → D k → D' k) : RN w D' b nd := by
  induction h with
  | mk hb hlo hf how hD _ ih => exact RN.mk hb (hl _ (block_lt hb) hlo) hf how (fun g hg => hl g (how.lt g hg).2 (hD g hg)) ih

/-- The block of a tree: its last cell is the one form. -/
theorem RN.form {w : World} {D : Nat → Prop} {b : Nat} {nd : Nd} (h : RN w D b nd) : ∃ x0 x1 x2 x3 f, w.heap[b]? = some (.cells #[x0, x1, x2, x3, .string f] 235) ∧ f.toList = formOf nd := by
  cases h with
  | mk hb hlo hf how hD hk => exact ⟨_, _, _, _, _, hb, hf⟩

/-- A reader that goes on, or one that has met an error. -/
def Sd (w : World) (c : Ctx) (d pl : Int) : Rs Unit → Prop
  | .ok _ ts => Rd w c ts d 0 pl
  | .no e p => (¬ e = 0) ∧ ∃ ts d', Rd w c ts d' e p

theorem Sd.some {w : World} {c : Ctx} {d pl : Int} {r : Rs Unit} (h : Sd w c d pl r) : ∃ t ts d' e p, Rd w c (t :: ts) d' e p := by
  cases r with
  | ok u ts => obtain ⟨t, us, rfl⟩ := Rd.head h; exact ⟨t, us, d, 0, pl, h⟩
  | no e p => obtain ⟨_, ts, d', h⟩ := h; obtain ⟨t, us, rfl⟩ := Rd.head h; exact ⟨t, us, d', e, p, h⟩

theorem Sd.ext {S : Nat → Prop} {w w' : World} {c : Ctx} {d pl : Int} {r : Rs Unit} (h : Sd w c d pl r) (hx : Ext S w w') (h1 : ¬ S c.rb) (h2 : ¬ S c.tb) (h3 : ¬ S c.nb) : Sd w' c d pl r := by
  cases r with
  | ok u ts => exact Rd.ext h hx h1 h2 h3
  | no e p => obtain ⟨h0, ts, d', h⟩ := h; exact ⟨h0, ts, d', h.ext hx h1 h2 h3⟩

theorem Sd.drewN {w : World} {c : Ctx} {d pl : Int} {r : Rs Unit} (h : Sd w c d pl r) (n : Nat) : Sd (w.drewN n) c d pl r :=
  h.ext (S := fun _ => False) ((Ext.refl _ w).drewN n) (fun f => f) (fun f => f) (fun f => f)

theorem Toks.mem {w : World} {tb : Nat} : ∀ {ts : List Tk} {i : Nat}, Toks w tb i ts → TS ts
  | [], _, _ => fun _ h => absurd h (by simp)
  | t :: ts, i, h => fun u hu => by
    rcases List.mem_cons.1 hu with rfl | hu
    · exact h.2.2.1
    · exact Toks.mem h.2.2.2 u hu

theorem Rd.ts {w : World} {c : Ctx} {ts : List Tk} {d err pl : Int} (h : Rd w c ts d err pl) : TS ts := by
  obtain ⟨i, hi, hn, ht, hb⟩ := h.here
  exact ht.mem

theorem Rd.len {w : World} {c : Ctx} {ts : List Tk} {d err pl : Int} (h : Rd w c ts d err pl) : ts.length ≤ 601 := by
  obtain ⟨i, hi, hn, ht, hb⟩ := h.here
  omega

/-- next, whatever the state: a short text; the next token's, if the reader goes on. -/
theorem sd_next {w : World} {c : Ctx} {d pl : Int} {r : Rs Unit} (h : Sd w c d pl r) :
    Calls Tryz.prog 161 #[.pointer (some ⟨c.rb, 0, none⟩)] w fun e w' => ∃ s : ByteArray, e = .returned (.string s) ∧ s.size ≤ 600 ∧ (∀ u t ts, r = .ok u (t :: ts) → s = t.txt) ∧ ∃ n, w' = w.drewN n := by
  cases r with
  | ok u ts =>
    obtain ⟨t, us, rfl⟩ := Rd.head h
    refine (rd_next h).mono ?_
    rintro e w' ⟨rfl, n, rfl⟩
    exact ⟨_, rfl, Rd.ts h t (List.mem_cons_self ..), fun u' t' ts' e => by injection e with e1 e2; injection e2 with e3 e4; rw [e3], n, rfl⟩
  | no e p =>
    obtain ⟨h0, ts, d', h⟩ := h
    obtain ⟨t, us, rfl⟩ := h.head
    refine (rd_next h).mono ?_
    rintro e w' ⟨rfl, n, rfl⟩
    exact ⟨_, rfl, h.ts t (List.mem_cons_self ..), fun u' t' ts' e => absurd e (by simp), n, rfl⟩

/-- What a name must be. -/
def nmStep (N : List Nm) (b : Bool) : Rs Unit → Rs Unit
  | .no e p => .no e p
  | .ok _ [] => .no 0 0
  | .ok _ (t :: ts) => if nameErr N b t.txt.toList = 0 then .ok () ts else .no (nameErr N b t.txt.toList) t.pos

theorem sd_name {w : World} {c : Ctx} {d pl : Int} {r : Rs Unit} (b : Bool) (h : Sd w c d pl r) :
    Calls Tryz.prog 197 #[.pointer (some ⟨c.rb, 0, none⟩), .bool b] w fun en w' => ∃ k : Int, en = .returned (.int .i64 k) ∧ Ext (· = c.rb) w w' ∧ Sd w' c d pl (nmStep c.N b r) ∧
      (∀ u t ts u' ts', r = .ok u (t :: ts) → nmStep c.N b r = .ok u' ts' → k = (arOf c.N t.txt.toList).getD (-1)) := by
  cases r with
  | ok u ts =>
    obtain ⟨t, us, rfl⟩ := Rd.head h
    by_cases hk : nameErr c.N b t.txt.toList = 0
    · refine (rd_name_ok b h hk).mono ?_
      rintro e w' ⟨rfl, hx, hr⟩
      refine ⟨_, rfl, hx, ?_, fun u' t' ts' u2 ts2 e _ => by injection e with e1 e2; injection e2 with e3 e4; rw [e3]⟩
      simp only [nmStep, if_pos hk]
      exact hr
    · refine (rd_name_no b h hk).mono ?_
      rintro e w' ⟨⟨k, rfl⟩, hx, hr⟩
      refine ⟨k, rfl, hx, ?_, fun u' t' ts' u2 ts2 e e' => ?_⟩
      · simp only [nmStep, if_neg hk]
        exact ⟨hk, _, _, hr⟩
      · simp only [nmStep, if_neg hk] at e'
        exact absurd e' (by simp)
  | no e p =>
    obtain ⟨h0, ts, d', h⟩ := h
    refine (rd_name_dead b h h0).mono ?_
    rintro e w' ⟨⟨k, rfl⟩, n, rfl⟩
    exact ⟨k, rfl, (Ext.refl _ w).drewN n, ⟨h0, ts, d', h.drewN n⟩, fun u' t' ts' u2 ts2 e _ => absurd e (by simp)⟩

/-- take ahead of an opening bracket. -/
theorem sd_take_open {w : World} {c : Ctx} {t : Tk} {ts : List Tk} {d pl : Int} (h : Rd w c (t :: ts) d 0 pl) (h1 : (t.txt.toList == [40]) = true) :
    Calls Tryz.prog 198 #[.pointer (some ⟨c.rb, 0, none⟩)] w fun en w' => en = .returned (.tuple #[]) ∧ Ext (· = c.rb) w w' ∧ Sd w' c (d + 1) pl (if 30 ≤ d then .no 6 t.pos else .ok () ts) := by
  by_cases hd : 30 ≤ d
  · have hd30 : d = 30 := by have := h.dhi; omega
    subst hd30
    refine (rd_take_deep h h1).mono ?_
    rintro e w' ⟨rfl, hx, hr⟩
    refine ⟨rfl, hx, ?_⟩
    rw [if_pos hd]
    exact ⟨by decide, _, _, hr⟩
  · refine (rd_take_open h h1 (by omega)).mono ?_
    rintro e w' ⟨rfl, hx, hr⟩
    refine ⟨rfl, hx, ?_⟩
    rw [if_neg hd]
    exact hr

end Go.Proofs.YtegbdaffhpiacaaGreatDoor

/- The reader of the document's own answer: a term that is a number. -/
namespace Go.Proofs.YtegbdaffhpiacaaGreatDoor
open Go.RowKit Ar

def Rs.un {α : Type} : Rs α → Rs Unit
  | .ok _ ts => .ok () ts
  | .no e p => .no e p

/-- What reading a term or a formula leaves. -/
def TermPost (w : World) (c : Ctx) (ts : List Tk) (d pl : Int) (r : Rs Nd) (en : Ending) (w' : World) : Prop :=
  ∃ (b : Nat) (x0 x1 x2 x3 : Value) (f : ByteArray), en = .returned (.pointer (some ⟨b, 0, none⟩)) ∧ w.heap.size ≤ b ∧ Ext (· = c.rb) w w' ∧
    w'.heap[b]? = some (.cells #[x0, x1, x2, x3, .string f] 235) ∧ f.size + 1 ≤ 603 * ts.length ∧ Sd w' c d pl (Rs.un r) ∧ (∀ nd ts', r = .ok nd ts' → RN w' (w.heap.size ≤ ·) b nd)

set_option maxHeartbeats 400000 in
theorem term_num_ok {w : World} {c : Ctx} {t : Tk} {ts : List Tk} {d pl v : Int} (h : Rd w c (t :: ts) d 0 pl) (hv : numOf t.txt.toList = some v) (hg1 : -1000 ≤ v) (hg2 : v ≤ 1000) :
    Calls Tryz.prog 159 #[.pointer (some ⟨c.rb, 0, none⟩)] w (TermPost w c (t :: ts) d pl (.ok (.mk 4 ByteArray.empty v []) ts)) := by
  have hsm := h.small
  have H := hide h
  have HN := number_any t.txt
  have HV := hide hv
  rw [hv] at HN
  have HN' := hide HN
  clear h hv HN
  go_enter Tryz.func159, Tryz.ntmps159
  go_wp2_with first
    | (go_at_call 161; refine (rd_next H.out).mono ?_; rintro e w' ⟨rfl, m, rfl⟩)
    | (go_at_call 170; refine (HN'.out _ hsm).mono ?_; rintro e w' ⟨rfl, rfl⟩)
  have hrb := H.out.rbs
  have hx0 : Ext (fun _ => False) w ((w.drewN m).alloc (Obj.cells #[.string t.txt, .slice none 0 0, .int .i64 0, .bool true, .string t.txt] 235)) := ((Ext.refl _ w).drewN m).alloc _
  refine (rd_number_ok (H.out.ext hx0 (fun f => f) (fun f => f) (fun f => f)) HV.out hg1 hg2).mono ?_
  rintro e w1 ⟨rfl, hx, hr⟩
  have kb : w1.heap[w.heap.size]? = some (.cells #[.string t.txt, .slice none 0 0, .int .i64 0, .bool true, .string t.txt] 235) :=
    (hx.block _ (block_lt (heap_alloc_new (w.drewN m) _)) (by show ¬ w.heap.size = c.rb; omega)).trans (heap_alloc_new (w.drewN m) _)
  have k2 := cell_of_block kb 2
  have f2 := frozen_of_block kb 2
  go_wp2_with fail
  go_ret
  have hxa : Ext (· = c.rb) w w1 := (hx0.mono (fun _ _ f => f.elim)).trans hx
  have hxb : Ext (· = w.heap.size) w1 (w1.setCell ⟨w.heap.size, 2, none⟩ (.int .i64 v)) := (Ext.refl (· = w.heap.size) w1).setCell (p := ⟨w.heap.size, 2, none⟩) (fun _ => rfl) _
  have hbl := block_setCell kb 2 (.int .i64 v)
  have ht := H.out.ts t (List.mem_cons_self ..)
  refine ⟨w.heap.size, _, _, _, _, t.txt, rfl, Nat.le_refl _, hxa.trans' hxb (fun i hi e => by omega), hbl, by simp; omega, ?_, ?_⟩
  · exact hr.ext hxb (by show ¬ c.rb = w.heap.size; omega) (by have := H.out.tbs; show ¬ c.tb = w.heap.size; omega) (by have := H.out.nbs; show ¬ c.nb = w.heap.size; omega)
  · intro nd ts' e
    injection e with e1 e2
    subst e1
    have hw : rwd 4 ByteArray.empty v = t.txt := by
      apply bytes_ext
      rw [rwd, if_pos rfl, ByteArray.toList_eq]
      exact num_text HV.out hg1 hg2
    refine RN.mk (pv := .slice none 0 0) (form := t.txt) (kids := []) ?_ (Nat.le_refl _) ?_ (World.ownsRow_nil _ _ _ _) (fun g hg => absurd hg (by simp [Value.ownBlock])) (fun i c p h => absurd h (by simp))
    · rw [hw]; exact hbl
    · rw [formOf, if_neg (by simp), tokOf, if_pos (Or.inl rfl)]
      exact (num_text HV.out hg1 hg2).symm

set_option maxHeartbeats 400000 in
theorem term_num_great {w : World} {c : Ctx} {t : Tk} {ts : List Tk} {d pl v : Int} (h : Rd w c (t :: ts) d 0 pl) (hv : numOf t.txt.toList = some v) (hg : v < -1000 ∨ 1000 < v) :
    Calls Tryz.prog 159 #[.pointer (some ⟨c.rb, 0, none⟩)] w (TermPost w c (t :: ts) d pl (.no 5 t.pos)) := by
  have hsm := h.small
  have H := hide h
  have HN := number_any t.txt
  have HV := hide hv
  have HG := hide hg
  rw [hv] at HN
  have HN' := hide HN
  clear h hv HN hg
  go_enter Tryz.func159, Tryz.ntmps159
  go_wp2_with first
    | (go_at_call 161; refine (rd_next H.out).mono ?_; rintro e w' ⟨rfl, m, rfl⟩)
    | (go_at_call 170; refine (HN'.out _ hsm).mono ?_; rintro e w' ⟨rfl, rfl⟩)
  have hrb := H.out.rbs
  have hx0 : Ext (fun _ => False) w ((w.drewN m).alloc (Obj.cells #[.string t.txt, .slice none 0 0, .int .i64 0, .bool true, .string t.txt] 235)) := ((Ext.refl _ w).drewN m).alloc _
  refine (rd_number_great (H.out.ext hx0 (fun f => f) (fun f => f) (fun f => f)) HV.out HG.out).mono ?_
  rintro e w1 ⟨rfl, hx, hr⟩
  have kb : w1.heap[w.heap.size]? = some (.cells #[.string t.txt, .slice none 0 0, .int .i64 0, .bool true, .string t.txt] 235) :=
    (hx.block _ (block_lt (heap_alloc_new (w.drewN m) _)) (by show ¬ w.heap.size = c.rb; omega)).trans (heap_alloc_new (w.drewN m) _)
  have k2 := cell_of_block kb 2
  have f2 := frozen_of_block kb 2
  go_wp2_with fail
  go_ret
  have hxa : Ext (· = c.rb) w w1 := (hx0.mono (fun _ _ f => f.elim)).trans hx
  have hxb : Ext (· = w.heap.size) w1 (w1.setCell ⟨w.heap.size, 2, none⟩ (.int .i64 v)) := (Ext.refl (· = w.heap.size) w1).setCell (p := ⟨w.heap.size, 2, none⟩) (fun _ => rfl) _
  have hbl := block_setCell kb 2 (.int .i64 v)
  have ht := H.out.ts t (List.mem_cons_self ..)
  refine ⟨w.heap.size, _, _, _, _, t.txt, rfl, Nat.le_refl _, hxa.trans' hxb (fun i hi e => by omega), hbl, by simp; omega, ⟨by decide, t :: ts, d, ?_⟩, fun nd ts' e => absurd e (by simp)⟩
  exact hr.ext hxb (by show ¬ c.rb = w.heap.size; omega) (by have := H.out.tbs; show ¬ c.tb = w.heap.size; omega) (by have := H.out.nbs; show ¬ c.nb = w.heap.size; omega)

/-- What a term that is a name by itself gives. -/
def nameRes (N : List Nm) (t : Tk) (ts : List Tk) : Rs Nd :=
  if nameErr N false t.txt.toList = 0 then .ok (.mk 3 t.txt 0 []) ts else .no (nameErr N false t.txt.toList) t.pos

set_option maxHeartbeats 400000 in
theorem term_name {w : World} {c : Ctx} {t : Tk} {ts : List Tk} {d pl : Int} (h : Rd w c (t :: ts) d 0 pl) (hv : numOf t.txt.toList = none) (ho : (t.txt.toList == [40]) = false) :
    Calls Tryz.prog 159 #[.pointer (some ⟨c.rb, 0, none⟩)] w (TermPost w c (t :: ts) d pl (nameRes c.N t ts)) := by
  have hsm := h.small
  have H := hide h
  have HN := number_any t.txt
  rw [hv] at HN
  have HN' := hide HN
  clear h hv HN
  go_enter Tryz.func159, Tryz.ntmps159
  go_wp2_with first
    | (go_at_call 161; refine (rd_next H.out).mono ?_; rintro e w' ⟨rfl, m, rfl⟩)
    | (go_at_call 170; refine (HN'.out _ hsm).mono ?_; rintro e w' ⟨rfl, rfl⟩)
  have hrb := H.out.rbs
  have hx0 : Ext (fun _ => False) w ((w.drewN m).alloc (Obj.cells #[.string t.txt, .slice none 0 0, .int .i64 0, .bool true, .string t.txt] 235)) := ((Ext.refl _ w).drewN m).alloc _
  refine (sd_name (r := .ok () (t :: ts)) false (H.out.ext hx0 (fun f => f) (fun f => f) (fun f => f))).mono ?_
  rintro e w1 ⟨k, rfl, hx, hr, _⟩
  have kb : w1.heap[w.heap.size]? = some (.cells #[.string t.txt, .slice none 0 0, .int .i64 0, .bool true, .string t.txt] 235) :=
    (hx.block _ (block_lt (heap_alloc_new (w.drewN m) _)) (by show ¬ w.heap.size = c.rb; omega)).trans (heap_alloc_new (w.drewN m) _)
  go_wp2_with fail
  go_ret
  have hxa : Ext (· = c.rb) w w1 := (hx0.mono (fun _ _ f => f.elim)).trans hx
  have ht := H.out.ts t (List.mem_cons_self ..)
  have hu : Rs.un (nameRes c.N t ts) = nmStep c.N false (.ok () (t :: ts)) := by
    simp only [nameRes, nmStep]
    split <;> rfl
  refine ⟨w.heap.size, _, _, _, _, t.txt, rfl, Nat.le_refl _, hxa, kb, by simp; omega, ?_, ?_⟩
  · rw [hu]; exact hr
  · intro nd ts' e
    unfold nameRes at e
    split at e
    · injection e with e1 e2
      subst e1
      refine RN.mk (pv := .slice none 0 0) (form := t.txt) (kids := []) kb (Nat.le_refl _) ?_ (World.ownsRow_nil _ _ _ _) (fun g hg => absurd hg (by simp [Value.ownBlock])) (fun i c p h => absurd h (by simp))
      rw [formOf, if_neg (by simp), tokOf, if_neg (by decide)]
    · exact absurd e (by simp)

end Go.Proofs.YtegbdaffhpiacaaGreatDoor

/- A term in brackets under way: what a round of its loop leaves. -/
namespace Go.Proofs.YtegbdaffhpiacaaGreatDoor
open Go.RowKit Ar

theorem size_of {f : ByteArray} {l : List UInt8} (h : f.toList = l) : f.size = l.length := by rw [← len_toList, h]

theorem toList_app (a b : ByteArray) : (a ++ b).toList = a.toList ++ b.toList := by
  rw [ByteArray.toList_eq, ByteArray.toList_eq, ByteArray.toList_eq, ByteArray.data_append, Array.toList_append]

/-- j parts were read. -/
def TLive (w : World) (c : Ctx) (D pl : Int) (F : List Tk → Rs Nd) (hd : List UInt8) (us0 : List Tk) (wr : World) (j : Nat) (pv : Value) (f : ByteArray) (us : List Tk) (ps : List Nd) (kids : List Nat) : Prop :=
  rdRow (List.replicate j F) us0 = .ok ps us ∧ Rd wr c us D 0 pl ∧ f.toList = hd ++ formsOf ps ∧ wr.ownsRow 0 172 1 pv j (kids.map kp) ∧ (∀ g, pv.ownBlock = some g → w.heap.size < g) ∧
    ∀ (i b : Nat) (p : Nd), kids[i]? = some b → ps[i]? = some p → RN wr (fun q => w.heap.size < q ∧ pv.ownBlock ≠ some q) b p

/-- A part was read and laid behind the others: the world behind it. -/
theorem part_step {w : World} {c : Ctx} {D pl : Int} {hd : List UInt8} {wr wc wt wa : World} {j : Nat} {pv v' : Value} {f f' : ByteArray} {ps : List Nd} {kids : List Nat} {b : Nat} {x0 x1 x2 x3 y0 y2 y3 : Value} {r : Rs Nd}
    (hE : Ext (· = c.rb) w wr) (hrb : c.rb < w.heap.size) (htb : c.tb < w.heap.size) (hnb : c.nb < w.heap.size)
    (hown : wr.ownsRow 0 172 1 pv j (kids.map kp)) (hpv : ∀ g, pv.ownBlock = some g → w.heap.size < g)
    (hkids : ∀ (i b : Nat) (p : Nd), kids[i]? = some b → ps[i]? = some p → RN wr (fun q => w.heap.size < q ∧ pv.ownBlock ≠ some q) b p)
    (hlen : ps.length = j) (hf : f.toList = hd ++ formsOf ps)
    (kb : wr.heap[w.heap.size]? = some (.cells #[y0, pv, y2, y3, .string f] 235))
    (hc : Ext (fun _ => False) wr wc)
    (hb : wc.heap.size ≤ b) (hx : Ext (· = c.rb) wc wt) (bb : wt.heap[b]? = some (.cells #[x0, x1, x2, x3, .string f'] 235)) (hs : Sd wt c D pl (Rs.un r)) (hr : ∀ nd ts', r = .ok nd ts' → RN wt (wc.heap.size ≤ ·) b nd)
    (O : Obj) (hown' : wa.ownsRow 0 172 1 v' (j + 1) (kids.map kp ++ [kp b])) (hg : (wt.alloc O).grownBy wa pv.ownBlock) (hat : v'.ownBlock = pv.ownBlock ∨ v'.ownBlock = some (wt.heap.size + 1)) :
    wa.heap[w.heap.size]? = some (.cells #[y0, pv, y2, y3, .string f] 235) ∧ wa.heap[b]? = some (.cells #[x0, x1, x2, x3, .string f'] 235) ∧ ¬ b = w.heap.size ∧ (∃ g cap, v' = .slice (some ⟨g, 0, none⟩) (j + 1) cap ∧ w.heap.size < g ∧ ¬ g = b) ∧
    ∀ (W : World), Ext (· = w.heap.size) wa W → W.heap[w.heap.size]? = some (.cells #[y0, v', y2, y3, .string (f ++ ⟨#[32]⟩ ++ f')] 235) →
      Ext (· = c.rb) w W ∧ Sd W c D pl (Rs.un r) ∧ (∀ g, v'.ownBlock = some g → w.heap.size < g) ∧ W.ownsRow 0 172 1 v' (j + 1) ((kids ++ [b]).map kp) ∧
      (∀ nd ts', r = .ok nd ts' → (f ++ ⟨#[32]⟩ ++ f').toList = hd ++ formsOf (ps ++ [nd]) ∧ ∀ (i q : Nat) (p : Nd), (kids ++ [b])[i]? = some q → (ps ++ [nd])[i]? = some p → RN W (fun q => w.heap.size < q ∧ v'.ownBlock ≠ some q) q p) := by
  have sz1 := hE.size
  have sz2 := hc.size
  have sz3 := hx.size
  have kx : w.heap.size < wr.heap.size := block_lt kb
  have hpl : ∀ g, pv.ownBlock = some g → g < wr.heap.size := fun g hg => (hown.lt g hg).2
  have hbt : b < wt.heap.size := block_lt bb
  have hxt : Ext (· = c.rb) wr wt := (hc.mono (fun _ _ f => f.elim)).trans hx
  have hxa : Ext (fun k => pv.ownBlock = some k) wt wa := ((Ext.refl (fun k => pv.ownBlock = some k) wt).alloc O).grown hg (fun k hk _ => hk)
  have kt : wt.heap[w.heap.size]? = some (.cells #[y0, pv, y2, y3, .string f] 235) := (hxt.block _ kx (by show ¬ w.heap.size = c.rb; omega)).trans kb
  have nx : ¬ pv.ownBlock = some w.heap.size := fun e => by have := hpv _ e; omega
  have nbk : ¬ pv.ownBlock = some b := fun e => by have := hpl _ e; omega
  have ka : wa.heap[w.heap.size]? = some (.cells #[y0, pv, y2, y3, .string f] 235) := (hxa.block _ (by omega) nx).trans kt
  have kab : wa.heap[b]? = some (.cells #[x0, x1, x2, x3, .string f'] 235) := (hxa.block _ hbt nbk).trans bb
  have hv'g : ∀ g, v'.ownBlock = some g → w.heap.size < g ∧ ¬ g = b := by
    intro g hg'
    rcases hat with e | e
    · rw [e] at hg'
      exact ⟨hpv g hg', fun e2 => nbk (by rw [hg', e2])⟩
    · rw [e] at hg'
      injection hg' with e2
      omega
  refine ⟨ka, kab, by omega, ?_, ?_⟩
  · rcases hown'.2 with ⟨_, e⟩ | ⟨g, cap, cur, hv, _⟩
    · exact absurd e (by omega)
    · have := hv'g g (by rw [hv]; rfl)
      exact ⟨g, cap, hv, this.1, this.2⟩
  · intro W hW kW
    have h1 : Ext (· = c.rb) w wa := (hE.trans hxt).trans' hxa (fun i hi e => by have := hpv i e; omega)
    have h2 : Ext (· = c.rb) w W := h1.trans' hW (fun i hi e => by omega)
    have szt := hs.some
    have hSt : Sd wa c D pl (Rs.un r) := hs.ext hxa (fun e => by have := hpv _ e; omega) (fun e => by have := hpv _ e; omega) (fun e => by have := hpv _ e; omega)
    have hSW : Sd W c D pl (Rs.un r) := hSt.ext hW (by show ¬ c.rb = w.heap.size; omega) (by show ¬ c.tb = w.heap.size; omega) (by show ¬ c.nb = w.heap.size; omega)
    refine ⟨h2, hSW, fun g hg' => (hv'g g hg').1, ?_, ?_⟩
    · rw [List.map_append]
      exact own_ext hown' hW (fun k hk e => by have := hv'g k hk; omega)
    · intro nd ts' e
      have hn := hr nd ts' e
      obtain ⟨z0, z1, z2, z3, fz, hz, hzf⟩ := hn.form
      have ez : f' = fz := by
        rw [bb] at hz
        simp at hz
        exact hz.2.2.2.2
      refine ⟨?_, ?_⟩
      · rw [toList_app, toList_app, formsOf_snoc, hf, ez, hzf]
        have : (ByteArray.mk #[32]).toList = [32] := by rw [ByteArray.toList_eq]
        rw [this]
        simp
      · have hkl : kids.length = j := by have := hown.1; simp at this; exact this
        have up : ∀ (q : Nat) (p : Nd), RN wt (fun q => w.heap.size < q ∧ pv.ownBlock ≠ some q ∧ v'.ownBlock ≠ some q) q p → RN W (fun q => w.heap.size < q ∧ v'.ownBlock ≠ some q) q p := by
          intro q p h4
          have h5 : RN wa (fun q => w.heap.size < q ∧ pv.ownBlock ≠ some q ∧ v'.ownBlock ≠ some q) q p := h4.ext hxa (fun k _ hk e => hk.2.1 e)
          have h6 : RN W (fun q => w.heap.size < q ∧ pv.ownBlock ≠ some q ∧ v'.ownBlock ≠ some q) q p := h5.ext hW (fun k _ hk e => by have := hk.1; omega)
          exact h6.mono (fun k _ hk => ⟨hk.1, hk.2.2⟩)
        intro i q p hq hp
        by_cases hi : i < j
        · rw [List.getElem?_append_left (by omega)] at hq hp
          have h3 := hkids i q p hq hp
          have h4 : RN wt (fun q => w.heap.size < q ∧ pv.ownBlock ≠ some q) q p := h3.ext hxt (fun k _ hk e => by have := hk.1; omega)
          refine up q p (h4.mono (fun k hk hD => ⟨hD.1, hD.2, ?_⟩))
          intro e
          rcases hat with e2 | e2
          · exact hD.2 (e2.symm.trans e)
          · rw [e2] at e; injection e with e3; omega
        · have hij : i = j := by
            have := List.getElem?_eq_some_iff.1 hq
            obtain ⟨h1, _⟩ := this
            simp at h1
            omega
          subst hij
          rw [List.getElem?_append_right (by omega)] at hq hp
          simp [hkl] at hq
          simp [hlen] at hp
          subst hq
          subst hp
          refine up _ _ (hn.mono (fun k hk hD => ⟨by omega, ?_, ?_⟩))
          · intro e; have := hpl k e; omega
          · intro e
            rcases hat with e2 | e2
            · have := hpl k (e2.symm.trans e); omega
            · rw [e2] at e; injection e with e3; omega

end Go.Proofs.YtegbdaffhpiacaaGreatDoor

/- Plain lemmas on terms in brackets, and the end of one that has met an error. -/
namespace Go.Proofs.YtegbdaffhpiacaaGreatDoor
open Go.RowKit Ar

theorem num_open {s : ByteArray} (h : (s.toList == [40]) = true) : numOf s.toList = none := by
  rw [beq_iff_eq.1 h]; decide

/-- What a term in brackets comes to, behind its name. -/
def parenRes (F : List Tk → Rs Nd) (s1 : ByteArray) (k : Int) : Rs Unit → Rs Nd
  | .no e p => .no e p
  | .ok _ us => rdCloses 4 3 s1 (rdRow (List.replicate k.toNat F) us)

theorem nm_ok {N : List Nm} {d : Int} {t : Tk} {ts us0 : List Tk} {u : Unit} (h : nmStep N true (if 30 ≤ d then Rs.no 6 t.pos else Rs.ok () ts) = .ok u us0) : d < 30 ∧ ∃ u', ts = u' :: us0 ∧ nameErr N true u'.txt.toList = 0 := by
  by_cases hd : 30 ≤ d
  · rw [if_pos hd] at h; exact absurd h (by simp [nmStep])
  · rw [if_neg hd] at h
    cases ts with
    | nil => exact absurd h (by simp [nmStep])
    | cons a b =>
      simp only [nmStep] at h
      split at h
      · rename_i h0
        injection h with h1 h2
        exact ⟨by omega, a, by rw [h2], h0⟩
      · exact absurd h (by simp)

theorem ar_bd {w : World} {nb : Nat} {N : List Nm} (h : Names w nb N) {l : List UInt8} {a : Int} (ha : arOf N l = some a) : 0 ≤ a ∧ a ≤ 3 := by
  unfold arOf at ha
  cases hf : N.find? (fun x => x.name.toList == l) with
  | none => rw [hf] at ha; exact absurd ha (by simp)
  | some x =>
    rw [hf] at ha
    simp at ha
    obtain ⟨i, hi, hx⟩ := List.getElem_of_mem (List.mem_of_find?_eq_some hf)
    have := (h i x (by rw [List.getElem?_eq_getElem hi, hx])).2.2
    omega

theorem name_ok_ar {w : World} {nb : Nat} {N : List Nm} (h : Names w nb N) {l : List UInt8} (h0 : nameErr N true l = 0) : isName l = true ∧ ∃ a, arOf N l = some a ∧ 1 ≤ a ∧ a ≤ 3 := by
  unfold nameErr at h0
  split at h0
  · exact absurd h0 (by decide)
  · rename_i h1
    split at h0
    · exact absurd h0 (by decide)
    · rename_i h2
      split at h0
      · exact absurd h0 (by decide)
      · rename_i h3
        refine ⟨by simpa using h1, ?_⟩
        cases ha : arOf N l with
        | none => rw [ha] at h2; exact absurd (by decide) h2
        | some a =>
          have := ar_bd h ha
          rw [ha] at h3
          simp at h3
          exact ⟨a, rfl, by omega, this.2⟩

theorem one_byte (x : UInt8) : (ByteArray.mk #[x]).toList = [x] := by rw [ByteArray.toList_eq]

/-- A term in brackets whose name may stand there. -/
theorem rdTerm_paren {N : List Nm} {n : Nat} {d : Int} {t u' : Tk} {ts us0 : List Tk} {k : Int} (ho : (t.txt.toList == [40]) = true) (hd : d < 30) (hts : ts = u' :: us0) (hne : nameErr N true u'.txt.toList = 0) (hka : arOf N u'.txt.toList = some k) (hk1 : 1 ≤ k) :
    rdTerm N (n + 1) d (t :: ts) = rdCloses 4 3 u'.txt (rdRow (List.replicate k.toNat (rdArg (rdTerm N n (d + 1)))) us0) := by
  have hn : isName u'.txt.toList = true := by
    cases h : isName u'.txt.toList with
    | true => rfl
    | false => rw [nameErr, if_pos h] at hne; exact absurd hne (by decide)
  subst hts
  rw [rdTerm, if_pos (beq_iff_eq.1 ho), if_neg (by omega)]
  simp only [hn, hka, if_true]
  rw [if_neg (by omega)]

/-- A term in brackets that ends at its bracket or its name. -/
theorem rdTerm_noname {w : World} {nb : Nat} {N : List Nm} {n : Nat} {d e : Int} {p : Nat} {t : Tk} {ts : List Tk} (hN : Names w nb N) (ho : (t.txt.toList == [40]) = true) (hts : ts ≠ []) (h : nmStep N true (if 30 ≤ d then Rs.no 6 t.pos else Rs.ok () ts) = .no e p) :
    rdTerm N (n + 1) d (t :: ts) = .no e p := by
  obtain ⟨u, us, rfl⟩ : ∃ u us, ts = u :: us := by
    cases ts with
    | nil => exact absurd rfl hts
    | cons u us => exact ⟨u, us, rfl⟩
  rw [rdTerm, if_pos (beq_iff_eq.1 ho)]
  by_cases hd : 30 ≤ d
  · rw [if_pos hd] at h ⊢
    simpa [nmStep] using h
  · rw [if_neg hd] at h ⊢
    simp only [nmStep] at h
    split at h
    · exact absurd h (by simp)
    · rename_i h0
      injection h with h1 h2
      subst h1
      subst h2
      unfold nameErr at h0 ⊢
      cases hn : isName u.txt.toList with
      | false => simp
      | true =>
        rw [hn] at h0
        simp only [if_true]
        cases ha : arOf N u.txt.toList with
        | none => simp
        | some a =>
          have hb := ar_bd hN ha
          rw [ha] at h0
          simp only [Option.getD_some] at h0 ⊢
          by_cases h3 : a = 0
          · subst h3
            rw [if_pos rfl, if_neg (by decide), if_neg (by decide), if_pos (by decide)]
          · exfalso
            apply h0
            have : 0 < a := by omega
            rw [if_neg (by decide), if_neg (by omega), if_neg]
            simp [this]

/-- A term or formula in brackets that has met an error: its end. -/
theorem dead_end {w w5 : World} {c : Ctx} {L ts' : List Tk} {d pl d' e : Int} {p : Nat} {y0 y1 y2 y3 : Value} {f : ByteArray} (h1 : Ext (· = c.rb) w w5) (hrb : c.rb < w.heap.size) (htb : c.tb < w.heap.size) (hnb : c.nb < w.heap.size)
    (k5 : w5.heap[w.heap.size]? = some (.cells #[y0, y1, y2, y3, .string f] 235)) (hr : Rd w5 c ts' d' e p) (h0 : ¬ e = 0) (hsz : f.size + 2 ≤ 603 * L.length) :
    TermPost w c L d pl (.no e p) (.returned (.pointer (some ⟨w.heap.size, 0, none⟩))) (w5.setCell ⟨w.heap.size, 4, none⟩ (.string (f ++ ⟨#[41]⟩))) := by
  have hxe : Ext (· = w.heap.size) w5 (w5.setCell ⟨w.heap.size, 4, none⟩ (.string (f ++ ⟨#[41]⟩))) := (Ext.refl (· = w.heap.size) w5).setCell (p := ⟨w.heap.size, 4, none⟩) (fun _ => rfl) _
  have kW := block_setCell k5 4 (.string (f ++ ⟨#[41]⟩))
  have hr2 := hr.ext hxe (by show ¬ c.rb = w.heap.size; omega) (by show ¬ c.tb = w.heap.size; omega) (by show ¬ c.nb = w.heap.size; omega)
  refine ⟨w.heap.size, _, _, _, _, _, rfl, Nat.le_refl _, h1.trans' hxe (fun i hi e => by omega), kW, ?_, ⟨h0, ts', d', hr2⟩, fun nd ts' e => absurd e (by simp)⟩
  have g4 : (ByteArray.mk #[41]).size = 1 := rfl
  simp only [ByteArray.size_append']; omega

end Go.Proofs.YtegbdaffhpiacaaGreatDoor

/- The document's own answer: the tokens of a text. -/
namespace Go.Proofs.YtegbdaffhpiacaaGreatDoor
open Go.RowKit Ar

/-- A token's two cells in memory. -/
def tkCells (ts : List Tk) : List Value := ts.flatMap (fun t => [.int .i64 t.pos, .string t.txt])

theorem tkCells_snoc (ts : List Tk) (t : Tk) : tkCells (ts ++ [t]) = tkCells ts ++ [.int .i64 t.pos, .string t.txt] := by
  simp [tkCells]

theorem info166 : (Tryz.prog.info? 328).map (fun i => (i.zero, i.size, i.bytes)) = some (some (.agg #[.int .i64 0, .string ByteArray.empty]), 2, 24) := by kernel_rfl

theorem drop_cons_at (s : ByteArray) (k : Nat) (h : k < s.size) : s.toList.drop k = s[k] :: s.toList.drop (k + 1) := by
  rw [ByteArray.toList_eq, List.drop_eq_getElem_cons (by rw [← Lib.size_eq]; exact h)]; rfl

theorem extract_one (s : ByteArray) (k : Nat) (h : k < s.size) : (s.extract k (k + 1)).toList = [s[k]] := by
  rw [Lib.extract_toList, ← ByteArray.toList_eq, drop_cons_at s k h]
  have : k + 1 - k = 1 := by omega
  rw [this]; rfl

theorem br_of {c : UInt8} (h : ((c.toNat : Int) == 40) = true ∨ ((c.toNat : Int) == 41) = true) : isBr c = true := by
  unfold isBr
  rcases h with h | h
  · rw [u8_of_int (c := c) (n := 40) (by omega) (by simpa using h)]; rfl
  · rw [u8_of_int (c := c) (n := 41) (by omega) (by simpa using h)]; rfl

theorem br_not {c : UInt8} (h1 : ((c.toNat : Int) == 40) = false) (h2 : ((c.toNat : Int) == 41) = false) : isBr c = false := by
  unfold isBr
  rw [Bool.or_eq_false_iff]
  constructor
  · cases hq : (c == 40) with
    | false => rfl
    | true => rw [beq_iff_eq.1 hq] at h1; exact absurd h1 (by decide)
  · cases hq : (c == 41) with
    | false => rfl
    | true => rw [beq_iff_eq.1 hq] at h2; exact absurd h2 (by decide)

/-- The token that a word under way becomes, as the walk writes it. -/
theorem flush_cells {W : ByteArray} {k : Nat} (hW : W.size ≤ k) (hne : W.toList.isEmpty = false) : tkFlush k W.toList = [⟨k - W.size, W⟩] ∧ (((k - W.size : Nat) : Int) = (k : Int) - (W.size : Int)) := by
  refine ⟨?_, by omega⟩
  unfold tkFlush
  rw [if_neg (by intro e; rw [e] at hne; exact absurd hne (by decide)), len_toList]
  have : (ByteArray.mk W.toList.toArray) = W := bytes_ext (mk_toList _)
  rw [this]

theorem flush_none {W : ByteArray} {k : Nat} (hne : W.toList.isEmpty = true) : tkFlush k W.toList = [] := by
  unfold tkFlush
  rw [if_pos (by simpa using hne)]

set_option maxRecDepth 100000 in
set_option maxHeartbeats 1000000 in
theorem tokens_any (s : ByteArray) (w : World) (hs : s.size ≤ 600) :
    Calls Tryz.prog 158 #[.string s] w fun e w' => ∃ v, e = .returned v ∧ Ext (fun _ => False) w w' ∧ w'.ownsRow w.heap.size 328 2 v (toks s.toList).length (tkCells (toks s.toList)) := by
  obtain ⟨i0, hi, hz0, hz1, hz2⟩ := info_parts info166
  have HI : Hid (Tryz.prog.info? 328 = some i0 ∧ i0.zero = some (.agg #[.int .i64 0, .string ByteArray.empty]) ∧ i0.size = 2 ∧ i0.bytes = 24) := ⟨hi, hz0, hz1, hz2⟩
  clear hi hz0 hz1 hz2
  go_enter Tryz.func158, Tryz.ntmps158
  go_wp2_with fail
  go_loopw [3, 4, 5] (fun out wv i wr => ∃ (k : Nat) (acc : List Tk) (W : ByteArray), i = .int .i64 k ∧ wv = .string W ∧ k ≤ s.size + 1 ∧ W.size ≤ k ∧ acc.length ≤ 2 * k ∧ Ext (fun _ => False) w wr ∧ wr.ownsRow w.heap.size 328 2 out acc.length (tkCells acc) ∧
      ((k ≤ s.size ∧ toks s.toList = acc ++ tkGo k W.toList (s.toList.drop k)) ∨ (k = s.size + 1 ∧ toks s.toList = acc ++ [⟨s.size, ByteArray.empty⟩])))
    (fun _ _ i _ => s.size + 1 - (intOf i).toNat)
  case atStart => exact ⟨0, [], ByteArray.empty, rfl, rfl, by omega, by decide, by simp, Ext.refl _ _, World.ownsRow_nil _ _ _ _, Or.inl ⟨by omega, by simp [toks]⟩⟩
  case round =>
    obtain ⟨k, acc, W, rfl, rfl, hk, hWk, hacc, hE, hown, hst⟩ := hrel
    have HE := hide hE
    have HOWN := hide hown
    have HST := hide hst
    clear hE hown hst
    by_cases hlt : k < s.size
    · have hne : ((k : Int) == (s.size : Int)) = false := by simp; omega
      have hbl := blank_any s[k]
      have HBL := hide hbl
      have HC : Hid (toks s.toList = acc ++ tkGo k W.toList (s[k] :: s.toList.drop (k + 1))) := by
        rcases HST.out with ⟨_, h⟩ | ⟨h, _⟩
        · rw [drop_cons_at s k hlt] at h; exact h
        · omega
      clear hbl HST
      obtain ⟨hi, hz0, hz1, hz2⟩ := HI.out
      have HEX := hide (extract_one s k hlt)
      by_cases h40 : ((s[k].toNat : Int) == 40) = true
      · have hbr : isBr s[k] = true := br_of (Or.inl h40)
        have HBR := hide hbr
        clear hbr
        have hbx : s.extract k (k + 1) = ⟨#[s[k]]⟩ := bytes_ext (by rw [HEX.out]; exact (mk_toList [s[k]]).symm)
        have HBX := hide hbx
        clear hbx
        cases hem : W.toList.isEmpty with
        | true =>
          go_wp2_with (at_builtin; refine wpList_append_own_at _ rfl _ _ 285 rfl w.heap.size 328 i0 (.agg #[.int .i64 0, .string ByteArray.empty]) 2 24 Tryz.underlying285 hi hz0 hz1 hz2 rfl (by decide) _ _ _ rfl (HOWN.out.alloc _) ⟨wr.heap.size, 0, none⟩ 1 1 [(.int .i64 (k : Int)), (.string (s.extract k (k + 1)))] rfl rfl ?c1 ?c2 ?c3 ?c4 ?c5 ?_)
          case c1 =>
            intro q u hq2
            match q, hq2 with
            | 0, hq2 => simp at hq2; subst hq2; simp [Addr.add]
            | 1, hq2 => simp at hq2; subst hq2; simp [Addr.add] <;> rfl
          case c2 => intro u hu; simp at hu; rcases hu with rfl | rfl <;> rfl
          case c3 => unfold maxLen; first | omega | (simp; omega)
          case c4 => first | omega | (simp; omega)
          case c5 => have := HE.out.size; first | omega | (simp; omega)
          intro v2 w2 hown' hgrow _ _
          have HE2 : Hid (Ext (fun _ => False) w w2) := (HE.out.alloc _).grown hgrow (fun g hg _ => by have := (HOWN.out.lt g hg).1; omega)
          have HO2 : Hid (w2.ownsRow w.heap.size 328 2 v2 (acc ++ [(⟨k, s.extract k (k + 1)⟩ : Tk)]).length (tkCells (acc ++ [(⟨k, s.extract k (k + 1)⟩ : Tk)]))) := by
            rw [tkCells_snoc, List.length_append]; exact hown'
          clear hown' hgrow
          go_wp2_with fail
          go_roundw
          case measure => simp [intOf] <;> omega
          case rel =>
            refine ⟨k + 1, _, _, by go_num, rfl, by omega, (by first | omega | exact Nat.zero_le _), by first | omega | (simp; omega), HE2.out, HO2.out, Or.inl ⟨by omega, ?_⟩⟩
            rw [HC.out, tkGo, if_pos HBR.out, flush_none hem, HBX.out]
            have e0 : W.toList = [] := by simpa using hem
            simp [e0]
        | false =>
          go_wp2_with (at_builtin; refine wpList_append_own_at _ rfl _ _ 285 rfl w.heap.size 328 i0 (.agg #[.int .i64 0, .string ByteArray.empty]) 2 24 Tryz.underlying285 hi hz0 hz1 hz2 rfl (by decide) _ _ _ rfl (HOWN.out.alloc _) ⟨wr.heap.size, 0, none⟩ 1 1 [(.int .i64 ((k : Int) - (W.size : Int))), (.string W)] rfl rfl ?c1 ?c2 ?c3 ?c4 ?c5 ?_)
          case c1 =>
            intro q u hq2
            match q, hq2 with
            | 0, hq2 => simp at hq2; subst hq2; simp [Addr.add]
            | 1, hq2 => simp at hq2; subst hq2; simp [Addr.add] <;> rfl
          case c2 => intro u hu; simp at hu; rcases hu with rfl | rfl <;> rfl
          case c3 => unfold maxLen; first | omega | (simp; omega)
          case c4 => first | omega | (simp; omega)
          case c5 => have := HE.out.size; first | omega | (simp; omega)
          intro v1 w1 hown' hgrow _ _
          have HE1 : Hid (Ext (fun _ => False) w w1) := (HE.out.alloc _).grown hgrow (fun g hg _ => by have := (HOWN.out.lt g hg).1; omega)
          have HO1 : Hid (w1.ownsRow w.heap.size 328 2 v1 (acc ++ [(⟨k - W.size, W⟩ : Tk)]).length (tkCells (acc ++ [(⟨k - W.size, W⟩ : Tk)]))) := by
            rw [tkCells_snoc, (flush_cells (by omega) hem).2, List.length_append]; exact hown'
          clear hown' hgrow
          go_wp2_with (at_builtin; refine wpList_append_own_at _ rfl _ _ 285 rfl w.heap.size 328 i0 (.agg #[.int .i64 0, .string ByteArray.empty]) 2 24 Tryz.underlying285 hi hz0 hz1 hz2 rfl (by decide) _ _ _ rfl (HO1.out.alloc _) ⟨w1.heap.size, 0, none⟩ 1 1 [(.int .i64 (k : Int)), (.string (s.extract k (k + 1)))] rfl rfl ?c1 ?c2 ?c3 ?c4 ?c5 ?_)
          case c1 =>
            intro q u hq2
            match q, hq2 with
            | 0, hq2 => simp at hq2; subst hq2; simp [Addr.add]
            | 1, hq2 => simp at hq2; subst hq2; simp [Addr.add] <;> rfl
          case c2 => intro u hu; simp at hu; rcases hu with rfl | rfl <;> rfl
          case c3 => unfold maxLen; first | omega | (simp; omega)
          case c4 => first | omega | (simp; omega)
          case c5 => have := HE1.out.size; first | omega | (simp; omega)
          intro v2 w2 hown' hgrow _ _
          have HE2 : Hid (Ext (fun _ => False) w w2) := (HE1.out.alloc _).grown hgrow (fun g hg _ => by have := (HO1.out.lt g hg).1; omega)
          have HO2 : Hid (w2.ownsRow w.heap.size 328 2 v2 ((acc ++ [(⟨k - W.size, W⟩ : Tk)]) ++ [(⟨k, s.extract k (k + 1)⟩ : Tk)]).length (tkCells ((acc ++ [(⟨k - W.size, W⟩ : Tk)]) ++ [(⟨k, s.extract k (k + 1)⟩ : Tk)]))) := by
            rw [tkCells_snoc, List.length_append, List.length_append]; exact hown'
          clear hown' hgrow
          go_wp2_with fail
          go_roundw
          case measure => simp [intOf] <;> omega
          case rel =>
            refine ⟨k + 1, _, _, by go_num, rfl, by omega, (by first | omega | exact Nat.zero_le _), by first | omega | (simp; omega), HE2.out, HO2.out, Or.inl ⟨by omega, ?_⟩⟩
            rw [HC.out, tkGo, if_pos HBR.out, (flush_cells (by omega) hem).1, HBX.out]
            simp
      have h40' : ((s[k].toNat : Int) == 40) = false := by simpa using h40
      clear h40
      by_cases h41 : ((s[k].toNat : Int) == 41) = true
      · have hbr : isBr s[k] = true := br_of (Or.inr h41)
        have HBR := hide hbr
        clear hbr
        have hbx : s.extract k (k + 1) = ⟨#[s[k]]⟩ := bytes_ext (by rw [HEX.out]; exact (mk_toList [s[k]]).symm)
        have HBX := hide hbx
        clear hbx
        cases hem : W.toList.isEmpty with
        | true =>
          go_wp2_with (at_builtin; refine wpList_append_own_at _ rfl _ _ 285 rfl w.heap.size 328 i0 (.agg #[.int .i64 0, .string ByteArray.empty]) 2 24 Tryz.underlying285 hi hz0 hz1 hz2 rfl (by decide) _ _ _ rfl (HOWN.out.alloc _) ⟨wr.heap.size, 0, none⟩ 1 1 [(.int .i64 (k : Int)), (.string (s.extract k (k + 1)))] rfl rfl ?c1 ?c2 ?c3 ?c4 ?c5 ?_)
          case c1 =>
            intro q u hq2
            match q, hq2 with
            | 0, hq2 => simp at hq2; subst hq2; simp [Addr.add]
            | 1, hq2 => simp at hq2; subst hq2; simp [Addr.add] <;> rfl
          case c2 => intro u hu; simp at hu; rcases hu with rfl | rfl <;> rfl
          case c3 => unfold maxLen; first | omega | (simp; omega)
          case c4 => first | omega | (simp; omega)
          case c5 => have := HE.out.size; first | omega | (simp; omega)
          intro v2 w2 hown' hgrow _ _
          have HE2 : Hid (Ext (fun _ => False) w w2) := (HE.out.alloc _).grown hgrow (fun g hg _ => by have := (HOWN.out.lt g hg).1; omega)
          have HO2 : Hid (w2.ownsRow w.heap.size 328 2 v2 (acc ++ [(⟨k, s.extract k (k + 1)⟩ : Tk)]).length (tkCells (acc ++ [(⟨k, s.extract k (k + 1)⟩ : Tk)]))) := by
            rw [tkCells_snoc, List.length_append]; exact hown'
          clear hown' hgrow
          go_wp2_with fail
          go_roundw
          case measure => simp [intOf] <;> omega
          case rel =>
            refine ⟨k + 1, _, _, by go_num, rfl, by omega, (by first | omega | exact Nat.zero_le _), by first | omega | (simp; omega), HE2.out, HO2.out, Or.inl ⟨by omega, ?_⟩⟩
            rw [HC.out, tkGo, if_pos HBR.out, flush_none hem, HBX.out]
            have e0 : W.toList = [] := by simpa using hem
            simp [e0]
        | false =>
          go_wp2_with (at_builtin; refine wpList_append_own_at _ rfl _ _ 285 rfl w.heap.size 328 i0 (.agg #[.int .i64 0, .string ByteArray.empty]) 2 24 Tryz.underlying285 hi hz0 hz1 hz2 rfl (by decide) _ _ _ rfl (HOWN.out.alloc _) ⟨wr.heap.size, 0, none⟩ 1 1 [(.int .i64 ((k : Int) - (W.size : Int))), (.string W)] rfl rfl ?c1 ?c2 ?c3 ?c4 ?c5 ?_)
          case c1 =>
            intro q u hq2
            match q, hq2 with
            | 0, hq2 => simp at hq2; subst hq2; simp [Addr.add]
            | 1, hq2 => simp at hq2; subst hq2; simp [Addr.add] <;> rfl
          case c2 => intro u hu; simp at hu; rcases hu with rfl | rfl <;> rfl
          case c3 => unfold maxLen; first | omega | (simp; omega)
          case c4 => first | omega | (simp; omega)
          case c5 => have := HE.out.size; first | omega | (simp; omega)
          intro v1 w1 hown' hgrow _ _
          have HE1 : Hid (Ext (fun _ => False) w w1) := (HE.out.alloc _).grown hgrow (fun g hg _ => by have := (HOWN.out.lt g hg).1; omega)
          have HO1 : Hid (w1.ownsRow w.heap.size 328 2 v1 (acc ++ [(⟨k - W.size, W⟩ : Tk)]).length (tkCells (acc ++ [(⟨k - W.size, W⟩ : Tk)]))) := by
            rw [tkCells_snoc, (flush_cells (by omega) hem).2, List.length_append]; exact hown'
          clear hown' hgrow
          go_wp2_with (at_builtin; refine wpList_append_own_at _ rfl _ _ 285 rfl w.heap.size 328 i0 (.agg #[.int .i64 0, .string ByteArray.empty]) 2 24 Tryz.underlying285 hi hz0 hz1 hz2 rfl (by decide) _ _ _ rfl (HO1.out.alloc _) ⟨w1.heap.size, 0, none⟩ 1 1 [(.int .i64 (k : Int)), (.string (s.extract k (k + 1)))] rfl rfl ?c1 ?c2 ?c3 ?c4 ?c5 ?_)
          case c1 =>
            intro q u hq2
            match q, hq2 with
            | 0, hq2 => simp at hq2; subst hq2; simp [Addr.add]
            | 1, hq2 => simp at hq2; subst hq2; simp [Addr.add] <;> rfl
          case c2 => intro u hu; simp at hu; rcases hu with rfl | rfl <;> rfl
          case c3 => unfold maxLen; first | omega | (simp; omega)
          case c4 => first | omega | (simp; omega)
          case c5 => have := HE1.out.size; first | omega | (simp; omega)
          intro v2 w2 hown' hgrow _ _
          have HE2 : Hid (Ext (fun _ => False) w w2) := (HE1.out.alloc _).grown hgrow (fun g hg _ => by have := (HO1.out.lt g hg).1; omega)
          have HO2 : Hid (w2.ownsRow w.heap.size 328 2 v2 ((acc ++ [(⟨k - W.size, W⟩ : Tk)]) ++ [(⟨k, s.extract k (k + 1)⟩ : Tk)]).length (tkCells ((acc ++ [(⟨k - W.size, W⟩ : Tk)]) ++ [(⟨k, s.extract k (k + 1)⟩ : Tk)]))) := by
            rw [tkCells_snoc, List.length_append, List.length_append]; exact hown'
          clear hown' hgrow
          go_wp2_with fail
          go_roundw
          case measure => simp [intOf] <;> omega
          case rel =>
            refine ⟨k + 1, _, _, by go_num, rfl, by omega, (by first | omega | exact Nat.zero_le _), by first | omega | (simp; omega), HE2.out, HO2.out, Or.inl ⟨by omega, ?_⟩⟩
            rw [HC.out, tkGo, if_pos HBR.out, (flush_cells (by omega) hem).1, HBX.out]
            simp
      have h41' : ((s[k].toNat : Int) == 41) = false := by simpa using h41
      clear h41
      have HBR := hide (br_not h40' h41')
      cases hbl : isBl s[k] with
      | true =>
        have HBT : Hid (∀ w, Calls Tryz.prog 195 #[.int .u8 s[k].toNat] w fun e w' => e = .returned (.bool true) ∧ w = w') := by
          intro w; have := HBL.out w; rw [hbl] at this; exact this.mono (fun e w' h => ⟨h.1, h.2.symm⟩)
        have HB2 := hide hbl
        clear hbl HBL
        cases hem : W.toList.isEmpty with
        | true =>
          go_wp2_with (go_at_call 195; refine (HBT.out _).mono ?_; rintro e w' ⟨rfl, rfl⟩)
          go_roundw
          case measure => simp [intOf] <;> omega
          case rel =>
            refine ⟨k + 1, acc, W, by go_num, rfl, by omega, by omega, by omega, HE.out, HOWN.out, Or.inl ⟨by omega, ?_⟩⟩
            rw [HC.out, tkGo, if_neg (by rw [HBR.out]; decide), if_pos HB2.out, flush_none hem]
            have e0 : W.toList = [] := by simpa using hem
            simp [e0]
        | false =>
          go_wp2_with first | (go_at_call 195; refine (HBT.out _).mono ?_; rintro e w' ⟨rfl, rfl⟩) | (at_builtin; refine wpList_append_own_at _ rfl _ _ 285 rfl w.heap.size 328 i0 (.agg #[.int .i64 0, .string ByteArray.empty]) 2 24 Tryz.underlying285 hi hz0 hz1 hz2 rfl (by decide) _ _ _ rfl (HOWN.out.alloc _) ⟨wr.heap.size, 0, none⟩ 1 1 [(.int .i64 ((k : Int) - (W.size : Int))), (.string W)] rfl rfl ?c1 ?c2 ?c3 ?c4 ?c5 ?_)
          case c1 =>
            intro q u hq2
            match q, hq2 with
            | 0, hq2 => simp at hq2; subst hq2; simp [Addr.add]
            | 1, hq2 => simp at hq2; subst hq2; simp [Addr.add] <;> rfl
          case c2 => intro u hu; simp at hu; rcases hu with rfl | rfl <;> rfl
          case c3 => unfold maxLen; first | omega | (simp; omega)
          case c4 => first | omega | (simp; omega)
          case c5 => have := HE.out.size; first | omega | (simp; omega)
          intro v1 w1 hown' hgrow _ _
          have HE1 : Hid (Ext (fun _ => False) w w1) := (HE.out.alloc _).grown hgrow (fun g hg _ => by have := (HOWN.out.lt g hg).1; omega)
          have HO1 : Hid (w1.ownsRow w.heap.size 328 2 v1 (acc ++ [(⟨k - W.size, W⟩ : Tk)]).length (tkCells (acc ++ [(⟨k - W.size, W⟩ : Tk)]))) := by
            rw [tkCells_snoc, (flush_cells (by omega) hem).2, List.length_append]; exact hown'
          clear hown' hgrow
          go_wp2_with fail
          go_roundw
          case measure => simp [intOf] <;> omega
          case rel =>
            refine ⟨k + 1, _, _, by go_num, rfl, by omega, (by first | omega | exact Nat.zero_le _), by first | omega | (simp; omega), HE1.out, HO1.out, Or.inl ⟨by omega, ?_⟩⟩
            rw [HC.out, tkGo, if_neg (by rw [HBR.out]; decide), if_pos HB2.out, (flush_cells (by omega) hem).1]
            simp
      | false =>
        have HBT : Hid (∀ w, Calls Tryz.prog 195 #[.int .u8 s[k].toNat] w fun e w' => e = .returned (.bool false) ∧ w = w') := by
          intro w; have := HBL.out w; rw [hbl] at this; exact this.mono (fun e w' h => ⟨h.1, h.2.symm⟩)
        have HB2 := hide hbl
        clear hbl HBL
        go_wp2_with (go_at_call 195; refine (HBT.out _).mono ?_; rintro e w' ⟨rfl, rfl⟩)
        go_roundw
        case measure => simp [intOf] <;> omega
        case rel =>
          refine ⟨k + 1, acc, _, by go_num, rfl, by omega, ?_, by omega, HE.out, HOWN.out, Or.inl ⟨by omega, ?_⟩⟩
          · rw [← len_toList, toList_app, HEX.out, List.length_append, len_toList]; simp; omega
          · rw [HC.out, tkGo, if_neg (by rw [HBR.out]; decide), if_neg (by rw [HB2.out]; decide), toList_app, HEX.out]
    · by_cases heq : k = s.size
      · subst heq
        obtain ⟨hi, hz0, hz1, hz2⟩ := HI.out
        have HC : Hid (toks s.toList = acc ++ (tkFlush s.size W.toList ++ [⟨s.size, ByteArray.empty⟩])) := by
          rcases HST.out with ⟨_, h⟩ | ⟨h, _⟩
          · rw [List.drop_of_length_le (by rw [len_toList]; omega)] at h; exact h
          · omega
        clear HST
        cases hem : W.toList.isEmpty with
        | true =>
          go_wp2_with fail
          go_roundw
          case measure => simp [intOf] <;> omega
          case rel =>
            refine ⟨s.size + 1, acc, W, by go_num, rfl, by omega, by omega, by omega, HE.out, HOWN.out, Or.inr ⟨rfl, ?_⟩⟩
            rw [HC.out, flush_none hem]; simp
        | false =>
          go_wp2_with (at_builtin; refine wpList_append_own_at _ rfl _ _ 285 rfl w.heap.size 328 i0 (.agg #[.int .i64 0, .string ByteArray.empty]) 2 24 Tryz.underlying285 hi hz0 hz1 hz2 rfl (by decide) _ _ _ rfl (HOWN.out.alloc _) ⟨wr.heap.size, 0, none⟩ 1 1 [(.int .i64 ((s.size : Int) - (W.size : Int))), (.string W)] rfl rfl ?c1 ?c2 ?c3 ?c4 ?c5 ?_)
          case c1 =>
            intro q u hq2
            match q, hq2 with
            | 0, hq2 => simp at hq2; subst hq2; simp [Addr.add]
            | 1, hq2 => simp at hq2; subst hq2; simp [Addr.add] <;> rfl
          case c2 => intro u hu; simp at hu; rcases hu with rfl | rfl <;> rfl
          case c3 => unfold maxLen; first | omega | (simp; omega)
          case c4 => first | omega | (simp; omega)
          case c5 => have := HE.out.size; first | omega | (simp; omega)
          intro v1 w1 hown' hgrow _ _
          have HE1 : Hid (Ext (fun _ => False) w w1) := (HE.out.alloc _).grown hgrow (fun g hg _ => by have := (HOWN.out.lt g hg).1; omega)
          have HO1 : Hid (w1.ownsRow w.heap.size 328 2 v1 (acc ++ [(⟨s.size - W.size, W⟩ : Tk)]).length (tkCells (acc ++ [(⟨s.size - W.size, W⟩ : Tk)]))) := by
            rw [tkCells_snoc, (flush_cells (by omega) hem).2, List.length_append]; exact hown'
          clear hown' hgrow
          go_wp2_with fail
          go_roundw
          case measure => simp [intOf] <;> omega
          case rel =>
            refine ⟨s.size + 1, _, _, by go_num, rfl, by omega, (by first | omega | exact Nat.zero_le _), by first | omega | (simp; omega), HE1.out, HO1.out, Or.inr ⟨rfl, ?_⟩⟩
            rw [HC.out, (flush_cells (by omega) hem).1]; simp
      · have hks : k = s.size + 1 := by omega
        subst hks
        have HC : Hid (toks s.toList = acc ++ [⟨s.size, ByteArray.empty⟩]) := by
          rcases HST.out with ⟨h, _⟩ | ⟨_, h⟩
          · omega
          · exact h
        clear HST
        obtain ⟨hi, hz0, hz1, hz2⟩ := HI.out
        go_wp2_with (at_builtin; refine wpList_append_own_at _ rfl _ _ 285 rfl w.heap.size 328 i0 (.agg #[.int .i64 0, .string ByteArray.empty]) 2 24 Tryz.underlying285 hi hz0 hz1 hz2 rfl (by decide) _ _ _ rfl (HOWN.out.alloc _) ⟨wr.heap.size, 0, none⟩ 1 1 [(.int .i64 (s.size : Int)), (.string ByteArray.empty)] rfl rfl ?c1 ?c2 ?c3 ?c4 ?c5 ?_)
        case c1 =>
          intro q u hq2
          match q, hq2 with
          | 0, hq2 => simp at hq2; subst hq2; simp [Addr.add]
          | 1, hq2 => simp at hq2; subst hq2; simp [Addr.add] <;> rfl
        case c2 => intro u hu; simp at hu; rcases hu with rfl | rfl <;> rfl
        case c3 => unfold maxLen; first | omega | (simp; omega)
        case c4 => first | omega | (simp; omega)
        case c5 => have := HE.out.size; first | omega | (simp; omega)
        intro v1 w1 hown' hgrow _ _
        go_wp2_with fail
        go_ret
        refine ⟨v1, rfl, (HE.out.alloc _).grown hgrow (fun g hg _ => by have := (HOWN.out.lt g hg).1; omega), ?_⟩
        rw [HC.out, tkCells_snoc, List.length_append]
        exact hown'

end Go.Proofs.YtegbdaffhpiacaaGreatDoor

/- The program: the token at a place of a text. -/
namespace Go.Proofs.YtegbdaffhpiacaaGreatDoor
open Go.RowKit Ar

/-- The token at place k of s: a bracket, or a word as long as it goes. -/
structure AtTok (s : ByteArray) (k : Nat) (X : ByteArray) : Prop where
  pos : 0 < X.size
  le : k + X.size ≤ s.size
  toks : tkGo k [] (s.toList.drop k) = ⟨k, X⟩ :: tkGo (k + X.size) [] (s.toList.drop (k + X.size))

theorem at_br {s : ByteArray} {k : Nat} (h : k < s.size) (hb : isBr s[k] = true) : AtTok s k (s.extract k (k + 1)) := by
  have he := extract_one s k h
  have hsz : (s.extract k (k + 1)).size = 1 := by rw [← len_toList, he]; rfl
  have hx : s.extract k (k + 1) = ⟨#[s[k]]⟩ := bytes_ext (by rw [he]; exact (mk_toList [s[k]]).symm)
  refine ⟨by omega, by omega, ?_⟩
  rw [drop_cons_at s k h, go_br _ _ _ hb, hsz, hx]

theorem at_word {s : ByteArray} {k e : Nat} (hk : k < e) (he : e ≤ s.size) (hp : ((s.toList.drop k).take (e - k)).all plain = true) (hs : ∀ c r, s.toList.drop e = c :: r → plain c = false) : AtTok s k (s.extract k e) ∧ kOf (s.extract k e).toList = 3 := by
  have hx : (s.extract k e).toList = (s.toList.drop k).take (e - k) := by rw [Lib.extract_toList, ← ByteArray.toList_eq]
  have hl : (s.extract k e).size = e - k := by rw [← len_toList, hx, List.length_take, List.length_drop, len_toList]; omega
  have hne : (s.toList.drop k).take (e - k) ≠ [] := by
    intro h0
    have := len_toList (s.extract k e)
    rw [hx, h0, hl] at this
    simp at this; omega
  refine ⟨⟨by omega, by omega, ?_⟩, by rw [hx]; exact kOf_word hne hp⟩
  have hsplit : s.toList.drop k = (s.toList.drop k).take (e - k) ++ s.toList.drop e := by
    have h1 : s.toList.drop e = (s.toList.drop k).drop (e - k) := by rw [List.drop_drop]; congr 1; omega
    rw [h1, List.take_append_drop]
  have hX : s.extract k e = ⟨((s.toList.drop k).take (e - k)).toArray⟩ := bytes_ext (hx.trans (mk_toList _).symm)
  have hlen : ((s.toList.drop k).take (e - k)).length = e - k := by rw [← hx, len_toList, hl]
  rw [hl]
  have hke : k + (e - k) = e := by omega
  rw [hke]
  conv => lhs; rw [hsplit]
  rw [go_word k _ _ hne hp hs, hlen, hke, hX]

theorem plain_snoc {s : ByteArray} {k e : Nat} (hke : k ≤ e) (hlt : e < s.size) (ha : ((s.toList.drop k).take (e - k)).all plain = true) (hp : plain s[e] = true) : ((s.toList.drop k).take (e + 1 - k)).all plain = true := by
  have h1 : e + 1 - k = (e - k) + 1 := by omega
  have hl : e - k < (s.toList.drop k).length := by rw [List.length_drop, len_toList]; omega
  have h2 : (s.toList.drop k)[e - k] = s[e] := by
    have h3 : s.toList.drop e = (s.toList.drop k).drop (e - k) := by rw [List.drop_drop]; congr 1; omega
    rw [drop_cons_at s e hlt, List.drop_eq_getElem_cons hl] at h3
    injection h3 with h4 h5
    exact h4.symm
  rw [h1, List.take_succ_eq_append_getElem hl, List.all_append, ha, h2]
  simp [hp]

set_option maxHeartbeats 400000 in
theorem gAt (s : ByteArray) (k : Nat) (w : World) (hs : s.size ≤ 600) (hk : k < s.size) (hb : isBl s[k] = false) :
    Calls Tryz.prog 143 #[.string s, .int .i64 k] w fun e w' => ∃ X : ByteArray, e = .returned (.agg #[.int .i64 (kOf X.toList), .int .i64 k, .string X]) ∧ AtTok s k X ∧ Ext (fun _ => False) w w' := by
  by_cases h40 : ((s[k].toNat : Int) == 40) = true
  · have HT := hide (at_br hk (br_of (Or.inl h40)))
    have HK : Hid (kOf (s.extract k (k + 1)).toList = 1) := by
      show _ = _
      rw [extract_one s k hk, u8_of_int (c := s[k]) (n := 40) (by omega) (by simpa using h40)]; decide
    go_enter Tryz.func143, Tryz.ntmps143
    go_wp2_with fail
    exact bodyPost_ret (v := .agg #[.int .i64 1, .int .i64 k, .string (s.extract k (k + 1))]) (by simp [results, Tryz.results143, go_sem]) rfl ⟨_, by rw [HK.out], HT.out, (Ext.refl _ w).alloc _⟩
  have h40' : ((s[k].toNat : Int) == 40) = false := by simpa using h40
  by_cases h41 : ((s[k].toNat : Int) == 41) = true
  · have HT := hide (at_br hk (br_of (Or.inr h41)))
    have HK : Hid (kOf (s.extract k (k + 1)).toList = 2) := by
      show _ = _
      rw [extract_one s k hk, u8_of_int (c := s[k]) (n := 41) (by omega) (by simpa using h41)]; decide
    clear h40
    go_enter Tryz.func143, Tryz.ntmps143
    go_wp2_with fail
    exact bodyPost_ret (v := .agg #[.int .i64 2, .int .i64 k, .string (s.extract k (k + 1))]) (by simp [results, Tryz.results143, go_sem]) rfl ⟨_, by rw [HK.out], HT.out, (Ext.refl _ w).alloc _⟩
  have h41' : ((s[k].toNat : Int) == 41) = false := by simpa using h41
  have HPL : Hid (plain s[k] = true) := by show _ = _; rw [plain, hb, br_not h40' h41']; rfl
  have HB := hide hb
  clear h40 h41 hb
  go_enter Tryz.func143, Tryz.ntmps143
  go_wp2_with fail
  go_loop [5] (fun i => ∃ e : Nat, k ≤ e ∧ e ≤ s.size ∧ i = .int .i64 e ∧ ((s.toList.drop k).take (e - k)).all plain = true ∧ (e = k → True)) (fun i => s.size - (intOf i).toNat)
  case atStart => exact ⟨k, Nat.le_refl _, by omega, rfl, by simp, fun _ => trivial⟩
  case round =>
    obtain ⟨e, hke, hes, rfl, ha, _⟩ := hrel
    have HA := hide ha
    clear ha
    by_cases hlt : e < s.size
    · have HBL := hide (gIsBlank s[e])
      have HBR := hide (gIsBracket s[e])
      have hstop : plain s[e] = false → AtTok s k (s.extract k e) ∧ kOf (s.extract k e).toList = 3 := by
        intro hn
        have hne : k < e := by
          rcases Nat.lt_or_ge k e with h | h
          · exact h
          · have : e = k := by omega
            subst this
            rw [HPL.out] at hn; exact absurd hn (by decide)
        refine at_word hne hes HA.out ?_
        intro c r hc
        rw [drop_cons_at s e hlt] at hc
        injection hc with h1 h2
        rw [← h1]; exact hn
      have HSTOP := hide hstop
      clear hstop
      cases hbl : isBl s[e] with
      | true =>
        have HB1 : Hid (∀ w, Calls Tryz.prog 142 #[.int .u8 s[e].toNat] w fun e w' => e = .returned (.bool true) ∧ w = w') := by
          intro w; have := HBL.out w; rw [hbl] at this; exact this
        have HW := hide (HSTOP.out (by rw [plain, hbl]; rfl))
        clear hbl HBL HBR HSTOP HA
        go_wp2_with (go_at_call 142; refine (HB1.out _).mono ?_; rintro e w' ⟨rfl, rfl⟩)
        exact bodyPost_ret (v := .agg #[.int .i64 3, .int .i64 k, .string (s.extract k e)]) (by simp [results, Tryz.results143, go_sem]) rfl ⟨_, by rw [HW.out.2], HW.out.1, (Ext.refl _ w).alloc _⟩
      | false =>
        have HB1 : Hid (∀ w, Calls Tryz.prog 142 #[.int .u8 s[e].toNat] w fun e w' => e = .returned (.bool false) ∧ w = w') := by
          intro w; have := HBL.out w; rw [hbl] at this; exact this
        cases hbr : isBr s[e] with
        | true =>
          have HB2 : Hid (∀ w, Calls Tryz.prog 184 #[.int .u8 s[e].toNat] w fun e w' => e = .returned (.bool true) ∧ w = w') := by
            intro w; have := HBR.out w; rw [hbr] at this; exact this
          have HW := hide (HSTOP.out (by rw [plain, hbl, hbr]; rfl))
          clear hbl hbr HBL HBR HSTOP HA
          go_wp2_with first
            | (go_at_call 142; refine (HB1.out _).mono ?_; rintro e w' ⟨rfl, rfl⟩)
            | (go_at_call 184; refine (HB2.out _).mono ?_; rintro e w' ⟨rfl, rfl⟩)
          exact bodyPost_ret (v := .agg #[.int .i64 3, .int .i64 k, .string (s.extract k e)]) (by simp [results, Tryz.results143, go_sem]) rfl ⟨_, by rw [HW.out.2], HW.out.1, (Ext.refl _ w).alloc _⟩
        | false =>
          have HB2 : Hid (∀ w, Calls Tryz.prog 184 #[.int .u8 s[e].toNat] w fun e w' => e = .returned (.bool false) ∧ w = w') := by
            intro w; have := HBR.out w; rw [hbr] at this; exact this
          have HP : Hid (plain s[e] = true) := by show _ = _; rw [plain, hbl, hbr]; rfl
          clear hbl hbr HBL HBR HSTOP
          go_wp2_with first
            | (go_at_call 142; refine (HB1.out _).mono ?_; rintro e w' ⟨rfl, rfl⟩)
            | (go_at_call 184; refine (HB2.out _).mono ?_; rintro e w' ⟨rfl, rfl⟩)
          exact ⟨⟨e + 1, by omega, by omega, by go_num, plain_snoc hke hlt HA.out HP.out, fun _ => trivial⟩, by simp [intOf]; omega⟩
    · have HW := hide (at_word (s := s) (k := k) (e := e) (by omega) hes HA.out (by
        intro c r hc
        rw [List.drop_of_length_le (by rw [len_toList]; omega)] at hc
        exact absurd hc (by simp)))
      clear HA
      go_wp2_with fail
      exact bodyPost_ret (v := .agg #[.int .i64 3, .int .i64 k, .string (s.extract k e)]) (by simp [results, Tryz.results143, go_sem]) rfl ⟨_, by rw [HW.out.2], HW.out.1, (Ext.refl _ w).alloc _⟩

end Go.Proofs.YtegbdaffhpiacaaGreatDoor

/- The program: the tokens of a text. -/
namespace Go.Proofs.YtegbdaffhpiacaaGreatDoor
open Go.RowKit Ar

def ptkCells (ts : List Tk) : List Value := ts.flatMap (fun t => [.int .i64 (kOf t.txt.toList), .int .i64 t.pos, .string t.txt])

theorem ptkCells_snoc (ts : List Tk) (t : Tk) : ptkCells (ts ++ [t]) = ptkCells ts ++ [.int .i64 (kOf t.txt.toList), .int .i64 t.pos, .string t.txt] := by
  simp [ptkCells]

theorem info118 : (Tryz.prog.info? 219).map (fun i => (i.zero, i.size, i.bytes)) = some (some (.agg #[.int .i64 0, .int .i64 0, .string ByteArray.empty]), 3, 32) := by kernel_rfl

set_option maxHeartbeats 400000 in
theorem gSplit (s : ByteArray) (w : World) (hs : s.size ≤ 600) :
    Calls Tryz.prog 105 #[.string s] w fun e w' => ∃ v, e = .returned v ∧ Ext (fun _ => False) w w' ∧ w'.ownsRow w.heap.size 219 3 v (toks s.toList).length (ptkCells (toks s.toList)) := by
  obtain ⟨i0, hi, hz0, hz1, hz2⟩ := info_parts info118
  have HI : Hid (Tryz.prog.info? 219 = some i0 ∧ i0.zero = some (.agg #[.int .i64 0, .int .i64 0, .string ByteArray.empty]) ∧ i0.size = 3 ∧ i0.bytes = 32) := ⟨hi, hz0, hz1, hz2⟩
  clear hi hz0 hz1 hz2
  go_enter Tryz.func105, Tryz.ntmps105
  go_wp2_with fail
  go_loopw [3, 4] (fun out i wr => ∃ (k : Nat) (acc : List Tk), i = .int .i64 k ∧ k ≤ s.size ∧ acc.length ≤ k ∧ Ext (fun _ => False) w wr ∧ wr.ownsRow w.heap.size 219 3 out acc.length (ptkCells acc) ∧ toks s.toList = acc ++ tkGo k [] (s.toList.drop k))
    (fun _ i _ => s.size - (intOf i).toNat)
  case atStart => exact ⟨0, [], rfl, by omega, by simp, Ext.refl _ _, World.ownsRow_nil _ _ _ _, by simp [toks]⟩
  case round =>
    obtain ⟨k, acc, rfl, hk, hacc, hE, hown, hst⟩ := hrel
    have HE := hide hE
    have HOWN := hide hown
    have HST := hide hst
    clear hE hown hst
    obtain ⟨hi, hz0, hz1, hz2⟩ := HI.out
    by_cases hlt : k < s.size
    · have HBL := hide (gIsBlank s[k])
      cases hbl : isBl s[k] with
      | true =>
        have HB1 : Hid (∀ w, Calls Tryz.prog 142 #[.int .u8 s[k].toNat] w fun e w' => e = .returned (.bool true) ∧ w = w') := by
          intro w; have := HBL.out w; rw [hbl] at this; exact this
        have HC : Hid (toks s.toList = acc ++ tkGo (k + 1) [] (s.toList.drop (k + 1))) := by
          have := HST.out
          rw [drop_cons_at s k hlt, go_bl _ _ _ hbl] at this
          exact this
        clear hbl HBL HST
        go_wp2_with (go_at_call 142; refine (HB1.out _).mono ?_; rintro e w' ⟨rfl, rfl⟩)
        go_roundw
        case measure => simp [intOf]; omega
        case rel => exact ⟨k + 1, acc, by go_num, by omega, by omega, HE.out, HOWN.out, HC.out⟩
      | false =>
        have HB1 : Hid (∀ w, Calls Tryz.prog 142 #[.int .u8 s[k].toNat] w fun e w' => e = .returned (.bool false) ∧ w = w') := by
          intro w; have := HBL.out w; rw [hbl] at this; exact this
        have HAT := hide (gAt s k wr hs hlt hbl)
        clear hbl HBL
        go_wp2_with (go_at_call 142; refine (HB1.out _).mono ?_; rintro e w' ⟨rfl, rfl⟩)
        refine HAT.out.mono ?_
        rintro e w1 ⟨X, rfl, hat, hx1⟩
        have HO1 := hide (own_ext HOWN.out hx1 (fun _ _ f => f))
        have HE1 := hide (HE.out.trans hx1)
        have hXp := hat.pos
        have hXl := hat.le
        have HAT2 := hide hat
        clear hat hx1
        go_wp2_with (at_builtin; refine wpList_append_own_at _ rfl _ _ 212 rfl w.heap.size 219 i0 (.agg #[.int .i64 0, .int .i64 0, .string ByteArray.empty]) 3 32 Tryz.underlying212 hi hz0 hz1 hz2 rfl (by decide) _ _ _ rfl ((HO1.out.alloc _).alloc _) ⟨w1.heap.size + 1, 0, none⟩ 1 1 [.int .i64 (kOf X.toList), .int .i64 k, .string X] rfl rfl ?c1 ?c2 ?c3 ?c4 ?c5 ?_)
        case c1 =>
          intro q u hq2
          match q, hq2 with
          | 0, hq2 => simp at hq2; subst hq2; simp [Addr.add]
          | 1, hq2 => simp at hq2; subst hq2; simp [Addr.add]
          | 2, hq2 => simp at hq2; subst hq2; simp [Addr.add]
        case c2 => intro u hu; simp at hu; rcases hu with rfl | rfl | rfl <;> rfl
        case c3 => unfold maxLen; omega
        case c4 => omega
        case c5 => have := HE1.out.size; simp; omega
        intro v2 w2 hown' hgrow _ _
        have hne : ¬ some w1.heap.size = u3.ownBlock := fun e => by have := (HO1.out.lt _ e.symm).2; omega
        have kb : w2.heap[w1.heap.size]? = some (.cells #[.int .i64 (kOf X.toList), .int .i64 k, .string X] 219) :=
          (hgrow.block _ (by simp; omega) hne).trans ((Below.heap_alloc _ _ _ (by simp)).trans (heap_alloc_new w1 _))
        have k2 := cell_of_block kb 2
        have HE2 : Hid (Ext (fun _ => False) w w2) := ((HE1.out.alloc _).alloc _).grown hgrow (fun g hg _ => by have := (HO1.out.lt g hg).1; omega)
        have HO2 : Hid (w2.ownsRow w.heap.size 219 3 v2 (acc ++ [(⟨k, X⟩ : Tk)]).length (ptkCells (acc ++ [(⟨k, X⟩ : Tk)]))) := by
          rw [ptkCells_snoc, List.length_append]; exact hown'
        clear hown' hgrow kb hne
        go_wp2_with fail
        go_roundw
        case measure => simp [intOf]; omega
        case rel =>
          refine ⟨k + X.size, acc ++ [⟨k, X⟩], by go_num, by omega, by simp; omega, HE2.out, HO2.out, ?_⟩
          rw [HST.out, HAT2.out.toks]; simp
    · have hks : k = s.size := by omega
      subst hks
      have HC : Hid (toks s.toList = acc ++ [⟨s.size, ByteArray.empty⟩]) := by
        have := HST.out
        rw [List.drop_of_length_le (by rw [len_toList]; omega)] at this
        exact this
      clear HST
      go_wp2_with (at_builtin; refine wpList_append_own_at _ rfl _ _ 212 rfl w.heap.size 219 i0 (.agg #[.int .i64 0, .int .i64 0, .string ByteArray.empty]) 3 32 Tryz.underlying212 hi hz0 hz1 hz2 rfl (by decide) _ _ _ rfl (HOWN.out.alloc _) ⟨wr.heap.size, 0, none⟩ 1 1 [.int .i64 0, .int .i64 (s.size : Int), .string ByteArray.empty] rfl rfl ?c1 ?c2 ?c3 ?c4 ?c5 ?_)
      case c1 =>
        intro q u hq2
        match q, hq2 with
        | 0, hq2 => simp at hq2; subst hq2; simp [Addr.add]
        | 1, hq2 => simp at hq2; subst hq2; simp [Addr.add]
        | 2, hq2 => simp at hq2; subst hq2; simp [Addr.add] <;> rfl
      case c2 => intro u hu; simp at hu; rcases hu with rfl | rfl | rfl <;> rfl
      case c3 => unfold maxLen; omega
      case c4 => omega
      case c5 => have := HE.out.size; simp; omega
      intro v2 w2 hown' hgrow _ _
      go_wp2_with fail
      go_ret
      refine ⟨v2, rfl, (HE.out.alloc _).grown hgrow (fun g hg _ => by have := (HOWN.out.lt g hg).1; omega), ?_⟩
      rw [HC.out, ptkCells_snoc, List.length_append]
      have e0 : kOf (ByteArray.empty).toList = 0 := by rw [empty_toList]; rfl
      simp only [e0]
      exact hown'

end Go.Proofs.YtegbdaffhpiacaaGreatDoor
