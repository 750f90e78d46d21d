/- The program: the tokens of a text; The program's reader in memory, and its small methods; The program's reader: pass, refuse, end, open, close. -/
import Derived.Test.YtihpglkehkgioaaGreatDoorOwn09
import Derived.Test.YtihpglkehkgioaaGreatDoorOwn08
/- The program: the tokens of a text. -/
namespace Go.Proofs.YtihpglkehkgioaaGreatDoor
open Go.RowKit Ar

def ptkCells (ts : List Tk) : List Value := ts.flatMap (fun t => [.int .i64 (kOf t.txt.toList), .int .i64 t.pos, .string t.txt])

theorem ptkCells_snoc (ts : List Tk) (t : Tk) : ptkCells (ts ++ [t]) = ptkCells ts ++ [.int .i64 (kOf t.txt.toList), .int .i64 t.pos, .string t.txt] := by
  simp [ptkCells]

theorem info118 : (Tryz.prog.info? 142).map (fun i => (i.zero, i.size, i.bytes)) = some (some (.agg #[.int .i64 0, .int .i64 0, .string ByteArray.empty]), 3, 32) := by kernel_rfl

set_option maxHeartbeats 400000 in
theorem gSplit (s : ByteArray) (w : World) (hs : s.size ≤ 600) :
    Calls Tryz.prog 37 #[.string s] w fun e w' => ∃ v, e = .returned v ∧ Ext (fun _ => False) w w' ∧ w'.ownsRow w.heap.size 142 3 v (toks s.toList).length (ptkCells (toks s.toList)) := by
  obtain ⟨i0, hi, hz0, hz1, hz2⟩ := info_parts info118
  have HI : Hid (Tryz.prog.info? 142 = some i0 ∧ i0.zero = some (.agg #[.int .i64 0, .int .i64 0, .string ByteArray.empty]) ∧ i0.size = 3 ∧ i0.bytes = 32) := ⟨hi, hz0, hz1, hz2⟩
  clear hi hz0 hz1 hz2
  go_enter Tryz.func37, Tryz.ntmps37
  go_wp2_with fail
  go_loopw [3, 4] (fun out i wr => ∃ (k : Nat) (acc : List Tk), i = .int .i64 k ∧ k ≤ s.size ∧ acc.length ≤ k ∧ Ext (fun _ => False) w wr ∧ wr.ownsRow w.heap.size 142 3 out acc.length (ptkCells acc) ∧ toks s.toList = acc ++ tkGo k [] (s.toList.drop k))
    (fun _ i _ => s.size - (intOf i).toNat)
  case atStart => exact ⟨0, [], rfl, by omega, by simp, Ext.refl _ _, World.ownsRow_nil _ _ _ _, by simp [toks]⟩
  case round =>
    obtain ⟨k, acc, rfl, hk, hacc, hE, hown, hst⟩ := hrel
    have HE := hide hE
    have HOWN := hide hown
    have HST := hide hst
    clear hE hown hst
    obtain ⟨hi, hz0, hz1, hz2⟩ := HI.out
    by_cases hlt : k < s.size
    · have HBL := hide (gIsBlank s[k])
      cases hbl : isBl s[k] with
      | true =>
        have HB1 : Hid (∀ w, Calls Tryz.prog 55 #[.int .u8 s[k].toNat] w fun e w' => e = .returned (.bool true) ∧ w = w') := by
          intro w; have := HBL.out w; rw [hbl] at this; exact this
        have HC : Hid (toks s.toList = acc ++ tkGo (k + 1) [] (s.toList.drop (k + 1))) := by
          have := HST.out
          rw [drop_cons_at s k hlt, go_bl _ _ _ hbl] at this
          exact this
        clear hbl HBL HST
        go_wp2_with (go_at_call 55; refine (HB1.out _).mono ?_; rintro e w' ⟨rfl, rfl⟩)
        go_roundw
        case measure => simp [intOf]; omega
        case rel => exact ⟨k + 1, acc, by go_num, by omega, by omega, HE.out, HOWN.out, HC.out⟩
      | false =>
        have HB1 : Hid (∀ w, Calls Tryz.prog 55 #[.int .u8 s[k].toNat] w fun e w' => e = .returned (.bool false) ∧ w = w') := by
          intro w; have := HBL.out w; rw [hbl] at this; exact this
        have HAT := hide (gAt s k wr hs hlt hbl)
        clear hbl HBL
        go_wp2_with (go_at_call 55; refine (HB1.out _).mono ?_; rintro e w' ⟨rfl, rfl⟩)
        refine HAT.out.mono ?_
        rintro e w1 ⟨X, rfl, hat, hx1⟩
        have HO1 := hide (own_ext HOWN.out hx1 (fun _ _ f => f))
        have HE1 := hide (HE.out.trans hx1)
        have hXp := hat.pos
        have hXl := hat.le
        have HAT2 := hide hat
        clear hat hx1
        go_wp2_with (at_builtin; refine wpList_append_own_at _ rfl _ _ 100 rfl w.heap.size 142 i0 (.agg #[.int .i64 0, .int .i64 0, .string ByteArray.empty]) 3 32 Tryz.underlying100 hi hz0 hz1 hz2 rfl (by decide) _ _ _ rfl ((HO1.out.alloc _).alloc _) ⟨w1.heap.size + 1, 0, none⟩ 1 1 [.int .i64 (kOf X.toList), .int .i64 k, .string X] rfl rfl ?c1 ?c2 ?c3 ?c4 ?c5 ?_)
        case c1 =>
          intro q u hq2
          match q, hq2 with
          | 0, hq2 => simp at hq2; subst hq2; simp [Addr.add]
          | 1, hq2 => simp at hq2; subst hq2; simp [Addr.add]
          | 2, hq2 => simp at hq2; subst hq2; simp [Addr.add]
        case c2 => intro u hu; simp at hu; rcases hu with rfl | rfl | rfl <;> rfl
        case c3 => unfold maxLen; omega
        case c4 => omega
        case c5 => have := HE1.out.size; simp; omega
        intro v2 w2 hown' hgrow _ _
        have hne : ¬ some w1.heap.size = u3.ownBlock := fun e => by have := (HO1.out.lt _ e.symm).2; omega
        have kb : w2.heap[w1.heap.size]? = some (.cells #[.int .i64 (kOf X.toList), .int .i64 k, .string X] 142) :=
          (hgrow.block _ (by simp; omega) hne).trans ((Below.heap_alloc _ _ _ (by simp)).trans (heap_alloc_new w1 _))
        have k2 := cell_of_block kb 2
        have HE2 : Hid (Ext (fun _ => False) w w2) := ((HE1.out.alloc _).alloc _).grown hgrow (fun g hg _ => by have := (HO1.out.lt g hg).1; omega)
        have HO2 : Hid (w2.ownsRow w.heap.size 142 3 v2 (acc ++ [(⟨k, X⟩ : Tk)]).length (ptkCells (acc ++ [(⟨k, X⟩ : Tk)]))) := by
          rw [ptkCells_snoc, List.length_append]; exact hown'
        clear hown' hgrow kb hne
        go_wp2_with fail
        go_roundw
        case measure => simp [intOf]; omega
        case rel =>
          refine ⟨k + X.size, acc ++ [⟨k, X⟩], by go_num, by omega, by simp; omega, HE2.out, HO2.out, ?_⟩
          rw [HST.out, HAT2.out.toks]; simp
    · have hks : k = s.size := by omega
      subst hks
      have HC : Hid (toks s.toList = acc ++ [⟨s.size, ByteArray.empty⟩]) := by
        have := HST.out
        rw [List.drop_of_length_le (by rw [len_toList]; omega)] at this
        exact this
      clear HST
      go_wp2_with (at_builtin; refine wpList_append_own_at _ rfl _ _ 100 rfl w.heap.size 142 i0 (.agg #[.int .i64 0, .int .i64 0, .string ByteArray.empty]) 3 32 Tryz.underlying100 hi hz0 hz1 hz2 rfl (by decide) _ _ _ rfl (HOWN.out.alloc _) ⟨wr.heap.size, 0, none⟩ 1 1 [.int .i64 0, .int .i64 (s.size : Int), .string ByteArray.empty] rfl rfl ?c1 ?c2 ?c3 ?c4 ?c5 ?_)
      case c1 =>
        intro q u hq2
        match q, hq2 with
        | 0, hq2 => simp at hq2; subst hq2; simp [Addr.add]
        | 1, hq2 => simp at hq2; subst hq2; simp [Addr.add]
        | 2, hq2 => simp at hq2; subst hq2; simp [Addr.add] <;> rfl
      case c2 => intro u hu; simp at hu; rcases hu with rfl | rfl | rfl <;> rfl
      case c3 => unfold maxLen; omega
      case c4 => omega
      case c5 => have := HE.out.size; simp; omega
      intro v2 w2 hown' hgrow _ _
      go_wp2_with fail
      go_ret
      refine ⟨v2, rfl, (HE.out.alloc _).grown hgrow (fun g hg _ => by have := (HOWN.out.lt g hg).1; omega), ?_⟩
      rw [HC.out, ptkCells_snoc, List.length_append]
      have e0 : kOf (ByteArray.empty).toList = 0 := by rw [empty_toList]; rfl
      simp only [e0]
      exact hown'

end Go.Proofs.YtihpglkehkgioaaGreatDoor

/- The program's reader in memory, and its small methods. -/
namespace Go.Proofs.YtihpglkehkgioaaGreatDoor
open Go.RowKit Ar

/-- Where the program's reader lies: its block, the tokens' block, the block of the table of names, the table's slice, the names. -/
structure PCtx where
  rb : Nat
  tb : Nat
  sb : Nat
  nv : Value
  N : List Nm

def PToks (w : World) (tb : Nat) : Nat → List Tk → Prop
  | _, [] => True
  | o, t :: ts => w.cell? ⟨tb, o, none⟩ = some (.int .i64 (kOf t.txt.toList)) ∧ w.cell? ⟨tb, o + 1, none⟩ = some (.int .i64 t.pos) ∧ w.cell? ⟨tb, o + 2, none⟩ = some (.string t.txt) ∧ t.txt.size ≤ 600 ∧ PToks w tb (o + 3) ts

theorem PToks.ext {w w' : World} {S : Nat → Prop} {tb : Nat} (h : Ext S w w') (hb : tb < w.heap.size) (hS : ¬ S tb) : ∀ {ts : List Tk} {i : Nat}, PToks w tb i ts → PToks w' tb i ts
  | [], _, _ => trivial
  | _ :: _, _, ht => ⟨(h.cell (p := ⟨tb, _, none⟩) hb hS).trans ht.1, (h.cell (p := ⟨tb, _, none⟩) hb hS).trans ht.2.1, (h.cell (p := ⟨tb, _, none⟩) hb hS).trans ht.2.2.1, ht.2.2.2.1, PToks.ext h hb hS ht.2.2.2.2⟩

def fnCells (N : List Nm) : List Value := N.flatMap (fun x => [.string x.name, .int .i64 x.ar])

/-- The rows of the program's table of first words. -/
def hdRows : List (ByteArray × Int × Int) := [(⟨#[110, 111, 116]⟩, 1, 0), (⟨#[97, 110, 100]⟩, 1, 2), (⟨#[111, 114]⟩, 1, 2), (⟨#[61, 62]⟩, 1, 1), (⟨#[105, 102, 102]⟩, 1, 1), (⟨#[61]⟩, 2, 3), (⟨#[60]⟩, 2, 3), (⟨#[60, 61]⟩, 2, 3), (⟨#[108, 101]⟩, 2, 4)]

def hdCells : Array Value := (hdRows.flatMap (fun x => [.string x.1, .int .i64 x.2.1, .int .i64 x.2.2])).toArray

/-- The table lies where the program's start has laid it. -/
def HdLaid (w : World) : Prop := ∃ t fr, w.heap[0]? = some (.cells hdCells t fr)

theorem HdLaid.ext {w w' : World} {S : Nat → Prop} (h : HdLaid w) (hx : Ext S w w') (hS : ¬ S 0) : HdLaid w' := by
  obtain ⟨t, fr, hb⟩ := h
  exact ⟨t, fr, (hx.block _ (block_lt hb) hS).trans hb⟩

structure PR (w : World) (c : PCtx) (ts : List Tk) (d pl er : Int) : Prop where
  wf : TW ts
  dlo : 0 ≤ d
  dhi : d ≤ 30
  len : ts.length ≤ 601
  tbn : ¬ c.tb = c.rb
  sbn : ¬ c.sb = c.rb
  nvn : ∀ g, c.nv.ownBlock = some g → ¬ g = c.rb
  hd : HdLaid w
  hdn : ¬ 0 = c.rb
  tbs : c.tb < w.heap.size
  sbs : c.sb < w.heap.size
  few : c.N.length ≤ 20
  ok : ∀ x ∈ c.N, 0 ≤ x.ar ∧ x.ar ≤ 3
  tbl : w.cell? ⟨c.sb, 0, none⟩ = some c.nv
  own : w.ownsRow 0 155 2 c.nv c.N.length (fnCells c.N)
  here : ∃ o cap : Nat, PToks w c.tb o ts ∧ ts.length ≤ cap ∧
    w.heap[c.rb]? = some (.cells #[.slice (some ⟨c.tb, o, none⟩) ts.length cap, .pointer (some ⟨c.sb, 0, none⟩), .int .i64 d, .int .i64 pl, .int .i64 er] 103)

theorem PR.head {w : World} {c : PCtx} {ts : List Tk} {d pl er : Int} (h : PR w c ts d pl er) : ∃ t us, ts = t :: us := by
  cases ts with
  | nil => exact absurd rfl h.wf.ne
  | cons t us => exact ⟨t, us, rfl⟩

theorem PR.rbs {w : World} {c : PCtx} {ts : List Tk} {d pl er : Int} (h : PR w c ts d pl er) : c.rb < w.heap.size := by
  obtain ⟨o, cap, ht, hc, hb⟩ := h.here
  exact block_lt hb

theorem PR.turn {w w' : World} {c : PCtx} {ts ts' : List Tk} {d pl er d' pl' er' : Int} (h : PR w c ts d pl er) (hx : Ext (· = c.rb) w w') (hw : TW ts') (h0 : 0 ≤ d') (h3 : d' ≤ 30) (hl : ts'.length ≤ 601)
    (hh : ∃ o cap : Nat, PToks w c.tb o ts' ∧ ts'.length ≤ cap ∧
      w'.heap[c.rb]? = some (.cells #[.slice (some ⟨c.tb, o, none⟩) ts'.length cap, .pointer (some ⟨c.sb, 0, none⟩), .int .i64 d', .int .i64 pl', .int .i64 er'] 103)) : PR w' c ts' d' pl' er' := by
  obtain ⟨o, cap, ht, hc, hb⟩ := hh
  exact ⟨hw, h0, h3, hl, h.tbn, h.sbn, h.nvn, h.hd.ext hx h.hdn, h.hdn, Nat.lt_of_lt_of_le h.tbs hx.size, Nat.lt_of_lt_of_le h.sbs hx.size, h.few, h.ok, (hx.cell (p := ⟨c.sb, 0, none⟩) h.sbs h.sbn).trans h.tbl, own_ext h.own hx h.nvn, o, cap, ht.ext hx h.tbs h.tbn, hc, hb⟩

theorem PR.ext {w w' : World} {S : Nat → Prop} {c : PCtx} {ts : List Tk} {d pl er : Int} (h : PR w c ts d pl er) (hx : Ext S w w') (h1 : ¬ S c.rb) (h2 : ¬ S c.tb) (h3 : ¬ S c.sb) (h4 : ∀ g, c.nv.ownBlock = some g → ¬ S g) (h5 : ¬ S 0) : PR w' c ts d pl er := by
  obtain ⟨o, cap, ht, hc, hb⟩ := h.here
  exact ⟨h.wf, h.dlo, h.dhi, h.len, h.tbn, h.sbn, h.nvn, h.hd.ext hx h5, h.hdn, Nat.lt_of_lt_of_le h.tbs hx.size, Nat.lt_of_lt_of_le h.sbs hx.size, h.few, h.ok, (hx.cell (p := ⟨c.sb, 0, none⟩) h.sbs h3).trans h.tbl, own_ext h.own hx h4, o, cap, ht.ext hx h.tbs h2, hc, (hx.block _ (block_lt hb) h1).trans hb⟩

theorem PR.new {w w' : World} {c : PCtx} {ts : List Tk} {d pl er : Int} (h : PR w c ts d pl er) (hx : Ext (fun _ => False) w w') : PR w' c ts d pl er :=
  h.ext hx (fun f => f) (fun f => f) (fun f => f) (fun _ _ f => f) (fun f => f)

theorem PR.sm {w : World} {c : PCtx} {t : Tk} {ts : List Tk} {d pl er : Int} (h : PR w c (t :: ts) d pl er) : t.txt.size ≤ 600 := by
  obtain ⟨o, cap, ht, hc, hb⟩ := h.here
  exact ht.2.2.2.1

set_option maxHeartbeats 400000 in
theorem p_next {w : World} {c : PCtx} {t : Tk} {ts : List Tk} {d pl er : Int} (h : PR w c (t :: ts) d pl er) :
    Calls Tryz.prog 57 #[.pointer (some ⟨c.rb, 0, none⟩)] w fun e w' => e = .returned (.agg #[.int .i64 (kOf t.txt.toList), .int .i64 t.pos, .string t.txt]) ∧ Ext (fun _ => False) w w' := by
  obtain ⟨o, cap, ht, hc, hb⟩ := h.here
  have c0 := cell_of_block hb 0
  have t0 := ht.1
  have t1 := ht.2.1
  have t2 := ht.2.2.1
  have hr := h.rbs
  have htb := h.tbs
  have n1 : ¬ c.rb = w.heap.size := by omega
  have n2 : ¬ c.tb = w.heap.size := by omega
  have hl : (0 : Int) < ((ts.length : Int) + 1) := by omega
  clear hb ht h
  go_enter Tryz.func57, Tryz.ntmps57
  go_wp2_with fail
  exact bodyPost_ret (v := .agg #[.int .i64 (kOf t.txt.toList), .int .i64 t.pos, .string t.txt]) (by simp [results, Tryz.results57, go_sem]) rfl ⟨rfl, (Ext.refl _ w).alloc _⟩

end Go.Proofs.YtihpglkehkgioaaGreatDoor

/- The program's reader: pass, refuse, end, open, close. -/
namespace Go.Proofs.YtihpglkehkgioaaGreatDoor
open Go.RowKit Ar

theorem fld0 (a b : Int) (x : ByteArray) (w : World) : Sem.run Tryz.prog (Instr.field 142 (.agg #[.int .i64 a, .int .i64 b, .string x]) 0) w = .ok (.int .i64 a) w := by kernel_rfl
theorem fld1 (a b : Int) (x : ByteArray) (w : World) : Sem.run Tryz.prog (Instr.field 142 (.agg #[.int .i64 a, .int .i64 b, .string x]) 1) w = .ok (.int .i64 b) w := by kernel_rfl
theorem fld2 (a b : Int) (x : ByteArray) (w : World) : Sem.run Tryz.prog (Instr.field 142 (.agg #[.int .i64 a, .int .i64 b, .string x]) 2) w = .ok (.string x) w := by kernel_rfl

theorem kOf_zero {l : List UInt8} : kOf l = 0 ↔ l = [] := by
  unfold kOf
  constructor
  · intro h
    split at h
    · assumption
    · split at h
      · exact absurd h (by decide)
      · split at h <;> exact absurd h (by decide)
  · intro h; rw [if_pos h]

set_option maxRecDepth 100000 in
set_option maxHeartbeats 400000 in
/-- A token that is not the end is passed. -/
theorem p_pass {w : World} {c : PCtx} {t : Tk} {ts : List Tk} {d pl er : Int} (h : PR w c (t :: ts) d pl er) (hne : t.txt.toList ≠ []) :
    Calls Tryz.prog 59 #[.pointer (some ⟨c.rb, 0, none⟩)] w fun e w' => e = .returned (.tuple #[]) ∧ Ext (· = c.rb) w w' ∧ PR w' c ts d pl er := by
  have hk : (kOf t.txt.toList == 0) = false := by
    cases hq : (kOf t.txt.toList == 0) with
    | false => rfl
    | true => exact absurd (kOf_zero.1 (beq_iff_eq.1 hq)) hne
  have HW := hide (h.wf.tail hne)
  have hts : 0 < ts.length := by
    cases ts with
    | nil => exact absurd rfl HW.out.ne
    | cons a b => simp
  have H := hide h
  have F0 := fld0
  clear h
  go_enter Tryz.func59, Tryz.ntmps59
  go_wp2_with fail
  refine (p_next H.out).mono ?_
  rintro e w1 ⟨rfl, hx1⟩
  have h1 := H.out.new hx1
  obtain ⟨o, cap, ht, hc, hb⟩ := h1.here
  have c0 := cell_of_block hb 0
  have f0 := frozen_of_block hb 0
  have hlen := h1.len
  have hc2 : ts.length + 1 ≤ cap := hc
  have hc3 : ¬ cap = 1 := by omega
  have hl : (1 : Int) ≤ ((ts.length : Int) + 1) := by omega
  have HX1 := hide hx1
  have H1 := hide h1
  have HT := hide ht
  have HB := hide hb
  clear hx1 h1 ht hb hc
  go_wp2_with fail
  go_end0
  have hx2 : Ext (· = c.rb) w1 (w1.setCell ⟨c.rb, 0, none⟩ (.slice (some ⟨c.tb, o + 3, none⟩) ts.length (cap - 1))) := (Ext.refl (· = c.rb) w1).setCell (p := ⟨c.rb, 0, none⟩) (fun _ => rfl) _
  exact ⟨rfl, (HX1.out.mono (fun _ _ f => f.elim)).trans hx2, H1.out.turn hx2 HW.out H1.out.dlo H1.out.dhi (by have := H1.out.len; simp at this; omega) ⟨o + 3, cap - 1, HT.out.2.2.2.2, by omega, block_setCell HB.out 0 _⟩⟩

set_option maxRecDepth 100000 in
set_option maxHeartbeats 400000 in
theorem p_refuse {w : World} {c : PCtx} {t : Tk} {ts : List Tk} {d pl er : Int} (e : Int) (h : PR w c (t :: ts) d pl er) :
    Calls Tryz.prog 60 #[.pointer (some ⟨c.rb, 0, none⟩), .int .i64 e] w fun en w' => en = .returned (.bool false) ∧ Ext (· = c.rb) w w' ∧ PR w' c (t :: ts) d t.pos e := by
  have H := hide h
  have F1 := fld1
  clear h
  go_enter Tryz.func60, Tryz.ntmps60
  go_wp2_with fail
  refine (p_next H.out).mono ?_
  rintro en w1 ⟨rfl, hx1⟩
  have h1 := H.out.new hx1
  obtain ⟨o, cap, ht, hc, hb⟩ := h1.here
  have c3 := cell_of_block hb 3
  have f3 := frozen_of_block hb 3
  have c4 := cell_of_block hb 4
  have f4 := frozen_of_block hb 4
  have HX1 := hide hx1
  have H1 := hide h1
  have HT := hide ht
  have HB := hide hb
  have HC := hide hc
  clear hx1 h1 ht hb hc
  go_wp2_with fail
  go_ret
  have hx2 : Ext (· = c.rb) w1 ((w1.setCell ⟨c.rb, 3, none⟩ (.int .i64 t.pos)).setCell ⟨c.rb, 4, none⟩ (.int .i64 e)) := ((Ext.refl (· = c.rb) w1).setCell (p := ⟨c.rb, 3, none⟩) (fun _ => rfl) _).setCell (p := ⟨c.rb, 4, none⟩) (fun _ => rfl) _
  exact ⟨rfl, (HX1.out.mono (fun _ _ f => f.elim)).trans hx2, H1.out.turn hx2 H1.out.wf H1.out.dlo H1.out.dhi H1.out.len ⟨o, cap, HT.out, HC.out, block_setCell (block_setCell HB.out 3 _) 4 _⟩⟩

set_option maxRecDepth 100000 in
set_option maxHeartbeats 400000 in
theorem p_end_ok {w : World} {c : PCtx} {t : Tk} {ts : List Tk} {d pl er : Int} (h : PR w c (t :: ts) d pl er) (he : t.txt.toList = []) :
    Calls Tryz.prog 39 #[.pointer (some ⟨c.rb, 0, none⟩)] w fun en w' => en = .returned (.bool true) ∧ Ext (fun _ => False) w w' := by
  have H := hide h
  have F0 := fld0
  have hk : (kOf t.txt.toList == 0) = true := by rw [kOf_zero.2 he]; rfl
  clear h he
  go_enter Tryz.func39, Tryz.ntmps39
  go_wp2_with (go_at_call 57; refine (p_next H.out).mono ?_; rintro en w1 ⟨rfl, hx1⟩; have HX1 := hide hx1; clear hx1)
  go_ret
  exact ⟨rfl, HX1.out⟩

set_option maxRecDepth 100000 in
set_option maxHeartbeats 400000 in
theorem p_end_no {w : World} {c : PCtx} {t : Tk} {ts : List Tk} {d pl er : Int} (h : PR w c (t :: ts) d pl er) (he : t.txt.toList ≠ []) :
    Calls Tryz.prog 39 #[.pointer (some ⟨c.rb, 0, none⟩)] w fun en w' => en = .returned (.bool false) ∧ Ext (· = c.rb) w w' ∧ PR w' c (t :: ts) d t.pos 2 := by
  have H := hide h
  have F0 := fld0
  have hk : (kOf t.txt.toList == 0) = false := by
    cases hq : (kOf t.txt.toList == 0) with
    | false => rfl
    | true => exact absurd (kOf_zero.1 (beq_iff_eq.1 hq)) he
  clear h he
  go_enter Tryz.func39, Tryz.ntmps39
  go_wp2_with first
    | (go_at_call 57; refine (p_next H.out).mono ?_; rintro en w1 ⟨rfl, hx1⟩; have HX1 := hide hx1; clear hx1)
    | (go_at_call 60; refine (p_refuse _ (H.out.new HX1.out)).mono ?_; rintro en w2 ⟨rfl, hx2, hr2⟩; have HX2 := hide hx2; have HR2 := hide hr2; clear hx2 hr2)
  go_ret
  exact ⟨rfl, (HX1.out.mono (fun _ _ f => f.elim)).trans HX2.out, HR2.out⟩

set_option maxRecDepth 100000 in
set_option maxHeartbeats 400000 in
theorem p_open_deep {w : World} {c : PCtx} {t : Tk} {ts : List Tk} {d pl er : Int} (h : PR w c (t :: ts) d pl er) (hd : 30 ≤ d) :
    Calls Tryz.prog 88 #[.pointer (some ⟨c.rb, 0, none⟩)] w fun en w' => en = .returned (.bool false) ∧ Ext (· = c.rb) w w' ∧ PR w' c (t :: ts) d t.pos 6 := by
  obtain ⟨o, cap, ht, hc, hb⟩ := h.here
  have c2 := cell_of_block hb 2
  have H := hide h
  clear h ht hb hc
  go_enter Tryz.func88, Tryz.ntmps88
  go_wp2_with (go_at_call 60; refine (p_refuse _ H.out).mono ?_; rintro en w2 ⟨rfl, hx2, hr2⟩; have HX2 := hide hx2; have HR2 := hide hr2; clear hx2 hr2)
  go_ret
  exact ⟨rfl, HX2.out, HR2.out⟩

set_option maxRecDepth 100000 in
set_option maxHeartbeats 400000 in
theorem p_open_ok {w : World} {c : PCtx} {t : Tk} {ts : List Tk} {d pl er : Int} (h : PR w c (t :: ts) d pl er) (hd : d < 30) (hne : t.txt.toList ≠ []) :
    Calls Tryz.prog 88 #[.pointer (some ⟨c.rb, 0, none⟩)] w fun en w' => en = .returned (.bool true) ∧ Ext (· = c.rb) w w' ∧ PR w' c ts (d + 1) pl er := by
  obtain ⟨o, cap, ht, hc, hb⟩ := h.here
  have c2 := cell_of_block hb 2
  have f2 := frozen_of_block hb 2
  have hlo := h.dlo
  have hx1 : Ext (· = c.rb) w (w.setCell ⟨c.rb, 2, none⟩ (.int .i64 (d + 1))) := (Ext.refl (· = c.rb) w).setCell (p := ⟨c.rb, 2, none⟩) (fun _ => rfl) _
  have HX1 := hide hx1
  have H1 := hide (h.turn hx1 h.wf (by omega) (by omega) h.len ⟨o, cap, ht, hc, block_setCell hb 2 _⟩)
  have HNE := hide hne
  clear h ht hb hc hx1 hne
  go_enter Tryz.func88, Tryz.ntmps88
  go_wp2_with (go_at_call 59; refine (p_pass H1.out HNE.out).mono ?_; rintro en w2 ⟨rfl, hx2, hr2⟩; have HX2 := hide hx2; have HR2 := hide hr2; clear hx2 hr2)
  go_ret
  exact ⟨rfl, HX1.out.trans HX2.out, HR2.out⟩

theorem kOf_close {l : List UInt8} (h : l = [41]) : kOf l = 2 := by rw [h]; decide
theorem kOf_ne2 {l : List UInt8} (h : l ≠ [41]) : (kOf l == 2) = false := by
  unfold kOf
  split
  · decide
  · split
    · decide
    · first
        | decide
        | (rw [if_neg h]; decide)

set_option maxRecDepth 100000 in
set_option maxHeartbeats 400000 in
theorem p_close_ok {w : World} {c : PCtx} {t : Tk} {ts : List Tk} {d pl er : Int} (e : Int) (h : PR w c (t :: ts) d pl er) (hd : 1 ≤ d) (hq : t.txt.toList = [41]) :
    Calls Tryz.prog 91 #[.pointer (some ⟨c.rb, 0, none⟩), .int .i64 e] w fun en w' => en = .returned (.bool true) ∧ Ext (· = c.rb) w w' ∧ PR w' c ts (d - 1) pl er := by
  have H := hide h
  have F0 := fld0
  have hhi := h.dhi
  have hk : (kOf t.txt.toList == 2) = true := by rw [kOf_close hq]; rfl
  have HNE : Hid (t.txt.toList ≠ []) := by intro e; rw [e] at hq; exact absurd hq (by decide)
  clear h hq
  go_enter Tryz.func91, Tryz.ntmps91
  go_wp2_with fail
  refine (p_next H.out).mono ?_
  rintro en w1 ⟨rfl, hx1⟩
  have h1 := H.out.new hx1
  obtain ⟨o, cap, ht, hc, hb⟩ := h1.here
  have c2 := cell_of_block hb 2
  have f2 := frozen_of_block hb 2
  have hx2 : Ext (· = c.rb) w1 (w1.setCell ⟨c.rb, 2, none⟩ (.int .i64 (d - 1))) := (Ext.refl (· = c.rb) w1).setCell (p := ⟨c.rb, 2, none⟩) (fun _ => rfl) _
  have HX2 : Hid (Ext (· = c.rb) w (w1.setCell ⟨c.rb, 2, none⟩ (.int .i64 (d - 1)))) := (hx1.mono (fun _ _ f => f.elim)).trans hx2
  have H2 := hide (h1.turn hx2 h1.wf (by omega) (by omega) h1.len ⟨o, cap, ht, hc, block_setCell hb 2 _⟩)
  clear h1 ht hb hc hx1 hx2
  go_wp2_with (go_at_call 59; refine (p_pass H2.out HNE.out).mono ?_; rintro en w2 ⟨rfl, hx3, hr3⟩; have HX3 := hide hx3; have HR3 := hide hr3; clear hx3 hr3)
  go_ret
  exact ⟨rfl, HX2.out.trans HX3.out, HR3.out⟩

/-- What any other token is where a bracket must close. -/
def clErr (e : Int) (l : List UInt8) : Int := if l = [] then 2 else e

set_option maxRecDepth 100000 in
set_option maxHeartbeats 400000 in
theorem p_close_no {w : World} {c : PCtx} {t : Tk} {ts : List Tk} {d pl er : Int} (e : Int) (h : PR w c (t :: ts) d pl er) (hq : t.txt.toList ≠ [41]) :
    Calls Tryz.prog 91 #[.pointer (some ⟨c.rb, 0, none⟩), .int .i64 e] w fun en w' => en = .returned (.bool false) ∧ Ext (· = c.rb) w w' ∧ PR w' c (t :: ts) d t.pos (clErr e t.txt.toList) := by
  have H := hide h
  have F0 := fld0
  have hk := kOf_ne2 hq
  clear h hq
  by_cases h0 : t.txt.toList = []
  · have hk0 : (kOf t.txt.toList == 0) = true := by rw [kOf_zero.2 h0]; rfl
    rw [clErr, if_pos h0]
    clear h0
    go_enter Tryz.func91, Tryz.ntmps91
    go_wp2_with first
      | (go_at_call 57; refine (p_next H.out).mono ?_; rintro en w1 ⟨rfl, hx1⟩; have HX1 := hide hx1; clear hx1)
      | (go_at_call 60; refine (p_refuse _ (H.out.new HX1.out)).mono ?_; rintro en w2 ⟨rfl, hx2, hr2⟩; have HX2 := hide hx2; have HR2 := hide hr2; clear hx2 hr2)
    go_ret
    exact ⟨rfl, (HX1.out.mono (fun _ _ f => f.elim)).trans HX2.out, HR2.out⟩
  · have hk0 : (kOf t.txt.toList == 0) = false := by
      cases hq : (kOf t.txt.toList == 0) with
      | false => rfl
      | true => exact absurd (kOf_zero.1 (beq_iff_eq.1 hq)) h0
    rw [clErr, if_neg h0]
    clear h0
    go_enter Tryz.func91, Tryz.ntmps91
    go_wp2_with first
      | (go_at_call 57; refine (p_next H.out).mono ?_; rintro en w1 ⟨rfl, hx1⟩; have HX1 := hide hx1; clear hx1)
      | (go_at_call 60; refine (p_refuse _ (H.out.new HX1.out)).mono ?_; rintro en w2 ⟨rfl, hx2, hr2⟩; have HX2 := hide hx2; have HR2 := hide hr2; clear hx2 hr2)
    go_ret
    exact ⟨rfl, (HX1.out.mono (fun _ _ f => f.elim)).trans HX2.out, HR2.out⟩

end Go.Proofs.YtihpglkehkgioaaGreatDoor
