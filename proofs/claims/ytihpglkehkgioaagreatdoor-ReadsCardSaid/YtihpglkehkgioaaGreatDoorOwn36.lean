/- The law: a step; which session; the book that stays empty; The law: a session of each side is begun; The law: what a script asks of the sessions that it is played on; two of them beside one another; The law: a script is played. -/
import Derived.Test.YtihpglkehkgioaaGreatDoorOwn35
/- The law: a step; which session; the book that stays empty. -/
namespace Go.Proofs.YtihpglkehkgioaaGreatDoor
open Go.RowKit Ar

theorem PairPost.of_new {w W : World} {ps rs : Nat} {N' : List Nm} {pv rv : Value} {xs : PX} {lv : Value} {F : Int} {e : Ending} {w' : World} (hx : Ext (fun _ => False) w W) (h : PairPost W ps rs N' pv rv xs lv F e w') : PairPost w ps rs N' pv rv xs lv F e w' := by
  obtain ⟨he, h1, pv', rv', h2, h3⟩ := h
  exact ⟨he, (hx.mono (fun _ _ f => f.elim)).trans h1, pv', rv', h2, fun k hk => (h3 k hk).imp id (fun e => Nat.le_trans hx.size e)⟩

set_option maxRecDepth 100000 in
set_option maxHeartbeats 400000 in
theorem step_decl {w : World} {ps rs : Nat} {N : List Nm} {pv rv : Value} {xs : PX} {lv : Value} {F : Int} (on : Int) (s : ByteArray) (a : Int) (bk : Value) (h : PairI w ps rs N pv rv xs lv F) (hs : s.size ≤ maxLen) :
    Calls Tryz.prog 8 #[.agg #[.pointer (some ⟨ps, 0, none⟩), .pointer (some ⟨rs, 0, none⟩)], .agg #[.int .i64 1, .int .i64 on, .string s, .int .i64 a], bk] w (PairPost w ps rs (declNames N F s a) pv rv xs lv F) := by
  have H := hide h
  clear h
  go_enter Tryz.func8, Tryz.ntmps8
  go_wp2_with fail
  obtain ⟨W, hW⟩ : ∃ W, (w.alloc (.cells #[.pointer (some ⟨ps, 0, none⟩), .pointer (some ⟨rs, 0, none⟩)] 28)).alloc (.cells #[.int .i64 1, .int .i64 on, .string s, .int .i64 a] 38) = W := ⟨_, rfl⟩
  have hxW : Ext (fun _ => False) w W := by rw [← hW]; exact ((Ext.refl _ w).alloc _).alloc _
  rw [hW]
  clear hW
  refine (reads_decl on s a (H.out.ext hxW (fun _ _ f => f)) hs).mono ?_
  rintro e w1 hp
  have hp1 := hp.of_new hxW
  obtain ⟨rfl, hp2⟩ := hp1
  have HP2 := hide hp2
  clear hp hp2 hxW
  go_wp2_with fail
  go_ret
  exact ⟨rfl, HP2.out⟩

set_option maxRecDepth 100000 in
set_option maxHeartbeats 400000 in
theorem step_tidy {w : World} {ps rs : Nat} {N : List Nm} {pv rv : Value} {xs : PX} {lv : Value} {F : Int} (on : Int) (s : ByteArray) (a : Int) (bk : Value) (h : PairI w ps rs N pv rv xs lv F) (hs : s.size ≤ maxLen) (hne : 0 < N.length) (hhd : HdLaid w) (hten : TenLaid w) :
    Calls Tryz.prog 8 #[.agg #[.pointer (some ⟨ps, 0, none⟩), .pointer (some ⟨rs, 0, none⟩)], .agg #[.int .i64 2, .int .i64 on, .string s, .int .i64 a], bk] w (PairPost w ps rs (N) pv rv xs lv F) := by
  have H := hide h
  clear h
  have HHD := hide hhd
  have HTEN := hide hten
  clear hhd hten
  go_enter Tryz.func8, Tryz.ntmps8
  go_wp2_with fail
  obtain ⟨W, hW⟩ : ∃ W, (w.alloc (.cells #[.pointer (some ⟨ps, 0, none⟩), .pointer (some ⟨rs, 0, none⟩)] 28)).alloc (.cells #[.int .i64 2, .int .i64 on, .string s, .int .i64 a] 38) = W := ⟨_, rfl⟩
  have hxW : Ext (fun _ => False) w W := by rw [← hW]; exact ((Ext.refl _ w).alloc _).alloc _
  rw [hW]
  clear hW
  refine (reads_tidy on s a (H.out.ext hxW (fun _ _ f => f)) hs hne (HHD.out.ext hxW (fun f => f)) (HTEN.out.ext hxW (fun f => f))).mono ?_
  rintro e w1 hp
  have hp1 := hp.of_new hxW
  obtain ⟨rfl, hp2⟩ := hp1
  have HP2 := hide hp2
  clear hp hp2 hxW
  go_wp2_with fail
  go_ret
  exact ⟨rfl, HP2.out⟩

set_option maxRecDepth 100000 in
set_option maxHeartbeats 400000 in
theorem step_none {w : World} {ps rs : Nat} {N : List Nm} {pv rv : Value} {xs : PX} {lv : Value} {F : Int} (k on : Int) (s : ByteArray) (a : Int) (bk : Value) (h : PairI w ps rs N pv rv xs lv F) (hk : k ≤ 0) :
    Calls Tryz.prog 8 #[.agg #[.pointer (some ⟨ps, 0, none⟩), .pointer (some ⟨rs, 0, none⟩)], .agg #[.int .i64 k, .int .i64 on, .string s, .int .i64 a], bk] w (PairPost w ps rs N pv rv xs lv F) := by
  have H := hide h
  have e1 : (k == 1) = false := by simp; omega
  have e2 : (k == 2) = false := by simp; omega
  have e3 : (k == 3) = false := by simp; omega
  have e4 : (k == 4) = false := by simp; omega
  have e5 : (k == 5) = false := by simp; omega
  have e6 : (k == 6) = false := by simp; omega
  have e7 : (k == 7) = false := by simp; omega
  have e8 : (k == 8) = false := by simp; omega
  have e9 : (k == 9) = false := by simp; omega
  have HX : Hid (Ext (fun _ => False) w ((w.alloc (.cells #[.pointer (some ⟨ps, 0, none⟩), .pointer (some ⟨rs, 0, none⟩)] 28)).alloc (.cells #[.int .i64 k, .int .i64 on, .string s, .int .i64 a] 38))) := ((Ext.refl _ w).alloc _).alloc _
  clear h hk
  go_enter Tryz.func8, Tryz.ntmps8
  go_wp2_with fail
  go_ret
  exact ⟨rfl, HX.out.mono (fun _ _ f => f.elim), pv, rv, H.out.ext HX.out (fun _ _ f => f), fun k hk => .inl hk⟩

set_option maxHeartbeats 400000 in
theorem looks_none {w : World} (bk : Nat) (m : Value) (n : Value) (hb : w.heap[bk]? = some (.cells #[.slice none 0 0, m, n] 36)) :
    Calls Tryz.prog 9 #[.pointer (some ⟨bk, 0, none⟩)] w fun e w' => e = .returned (.bool true) ∧ w' = w := by
  have c0 := cell_of_block hb 0
  clear hb
  go_enter Tryz.func9, Tryz.ntmps9
  go_wp2_with fail
  go_loop [3] (fun i => i = .int .i64 0) (fun _ => 0)
  case atStart => rfl
  case round =>
    subst hrel
    go_wp2_with fail
    go_ret
    exact ⟨rfl, rfl⟩

/-- Which of two things a raw number speaks of. -/
def pickOf (c : Int) : Nat := if c < 0 then ((-(c + 1)) % 2).toNat else (c % 2).toNat

theorem pickOf_two (c : Int) : pickOf c = 0 ∨ pickOf c = 1 := by
  unfold pickOf
  split <;> omega

set_option maxHeartbeats 400000 in
theorem pick_two (c : Int) (w : World) (hc : -9223372036854775808 ≤ c) (hc2 : c ≤ 9223372036854775807) :
    Calls Tryz.prog 7 #[.int .i64 c, .int .i64 2] w fun e w' => e = .returned (.int .i64 (pickOf c : Nat)) ∧ w' = w := by
  by_cases h : c < 0
  · go_enter Tryz.func7, Tryz.ntmps7
    go_wp2_with fail
    go_ret
    have e : -(c + 1).tmod 2 = (-(c + 1)) % 2 := by rw [← Int.neg_tmod, Int.tmod_eq_emod_of_nonneg (by omega)]
    refine ⟨?_, rfl⟩
    show Ending.returned (.int .i64 (-(c + 1).tmod 2)) = _
    rw [e, pickOf, if_pos h, Int.toNat_of_nonneg (by omega)]
  · go_enter Tryz.func7, Tryz.ntmps7
    go_wp2_with fail
    go_ret
    refine ⟨?_, rfl⟩
    show Ending.returned (.int .i64 (c % 2)) = _
    rw [pickOf, if_neg (by omega), Int.toNat_of_nonneg (by omega)]

end Go.Proofs.YtihpglkehkgioaaGreatDoor

/- The law: a session of each side is begun. -/
namespace Go.Proofs.YtihpglkehkgioaaGreatDoor
open Go.RowKit Ar

def bX : ByteArray := ⟨#[120]⟩
def bY : ByteArray := ⟨#[121]⟩
def bF : ByteArray := ⟨#[102]⟩
/-- The document's first example, as it is handed in, and in its one form. -/
def bEx : ByteArray := ⟨#[32, 40, 32, 61, 32, 32, 40, 102, 32, 120, 41, 32, 32, 121, 41]⟩
def bForm : ByteArray := ⟨#[40, 61, 32, 40, 102, 32, 120, 41, 32, 121, 41]⟩

/-- The names that a session begins with. -/
def nms3 : List Nm := [⟨bX, 0, 0⟩, ⟨bY, 0, 0⟩, ⟨bF, 1, 0⟩]

theorem decl_x : declNames [] 0 bX 0 = [⟨bX, 0, 0⟩] := by rw [declNames, if_pos (by kernel_rfl)]; rfl
theorem decl_y : declNames [⟨bX, 0, 0⟩] 0 bY 0 = [⟨bX, 0, 0⟩, ⟨bY, 0, 0⟩] := by rw [declNames, if_pos (by kernel_rfl)]; rfl
theorem decl_f : declNames [⟨bX, 0, 0⟩, ⟨bY, 0, 0⟩] 0 bF 1 = nms3 := by rw [declNames, if_pos (by kernel_rfl)]; rfl
theorem tidy_ex : tidyOut nms3 bEx = (bForm.toList, 0, 0) := by kernel_rfl

def BegunPost (w : World) (e : Ending) (w' : World) : Prop :=
  ∃ ps rs pv rv, e = .returned (.tuple #[.agg #[.pointer (some ⟨ps, 0, none⟩), .pointer (some ⟨rs, 0, none⟩)], .bool true]) ∧ Ext (fun _ => False) w w' ∧ PairI w' ps rs nms3 pv rv px0 (.slice none 0 0) 0 ∧ (∀ k, Foot ps rs pv rv k → w.heap.size ≤ k)

/-- A session that is being begun: rb: where the answer will lie; pb: where the pair lies. -/
structure Bg (w : World) (pb ps rs : Nat) (N : List Nm) (pv rv : Value) (wi : World) : Prop where
  ext : Ext (fun _ => False) w wi
  res : wi.heap[w.heap.size]? = some (.cells #[.pointer none, .pointer none] 28)
  pbk : wi.heap[pb]? = some (.cells #[.pointer (some ⟨ps, 0, none⟩), .pointer (some ⟨rs, 0, none⟩)] 28)
  pair : PairI wi ps rs N pv rv px0 (.slice none 0 0) 0
  foot : ∀ k, Foot ps rs pv rv k → w.heap.size < k ∧ ¬ k = pb

theorem bg_step {w wi w' : World} {pb ps rs : Nat} {N N' : List Nm} {pv rv : Value} {e : Ending} (h : Bg w pb ps rs N pv rv wi) (hp : PairPost wi ps rs N' pv rv px0 (.slice none 0 0) 0 e w') :
    e = .returned (.bool true) ∧ ∃ pv' rv', Bg w pb ps rs N' pv' rv' w' := by
  obtain ⟨he, hx, pv', rv', hP, hF⟩ := hp
  have s0 := h.ext.size
  have l1 := block_lt h.res
  have l2 := block_lt h.pbk
  refine ⟨he, pv', rv', h.ext.trans' hx (fun i hi f => by have := (h.foot i f).1; omega), (hx.block _ l1 (fun f => by have := (h.foot _ f).1; omega)).trans h.res, (hx.block _ l2 (fun f => (h.foot _ f).2 rfl)).trans h.pbk, hP, ?_⟩
  intro k hk
  rcases hF k hk with hf | hf
  · exact h.foot k hf
  · exact ⟨by omega, by omega⟩

theorem bg_start {w w0 w1 : World} (hx0 : Ext (fun _ => False) w w0) (hk0 : w0.heap[w.heap.size]? = some (.cells #[.pointer none, .pointer none] 28)) (hs0 : w0.heap.size = w.heap.size + 1)
    (hx1 : Ext (fun _ => False) w0 w1) (hp1 : PS w1 w0.heap.size [] (.slice none 0 0) px0) (hs1 : w1.heap.size = w0.heap.size + 1) (bk : Obj) :
    Bg w (w1.heap.size + 1) w0.heap.size w1.heap.size [] (.slice none 0 0) (.slice none 0 0) (((w1.alloc (.cells #[.slice none 0 0, .slice none 0 0, .int .i64 0, .int .i64 0] 46)).alloc (.cells #[.pointer (some ⟨w0.heap.size, 0, none⟩), .pointer (some ⟨w1.heap.size, 0, none⟩)] 28)).alloc bk) := by
  have hx : Ext (fun _ => False) w1 (((w1.alloc (.cells #[.slice none 0 0, .slice none 0 0, .int .i64 0, .int .i64 0] 46)).alloc (.cells #[.pointer (some ⟨w0.heap.size, 0, none⟩), .pointer (some ⟨w1.heap.size, 0, none⟩)] 28)).alloc bk) := (((Ext.refl _ w1).alloc _).alloc _).alloc _
  have none_own : ∀ g, (Value.slice none 0 0).ownBlock = some g → False := fun g hg => absurd hg (by simp [Value.ownBlock])
  refine ⟨(hx0.trans hx1).trans hx, ?_, ?_, ⟨hp1.ext hx (fun f => f) (fun _ _ f => f), ⟨⟨0, ?_⟩, World.ownsRow_nil _ _ _ _, fun g hg => (none_own g hg).elim, by simp, fun _ h => absurd h (by simp)⟩, by omega, fun g hg => (none_own g hg).elim, fun g hg => (none_own g hg).elim, fun g hg => (none_own g hg).elim⟩, ?_⟩
  · exact ((hx1.trans hx).block _ (by omega) (fun f => f)).trans hk0
  · rw [heap_alloc_old _ _ (by simp)]
    have e := heap_alloc_new (w1.alloc (.cells #[.slice none 0 0, .slice none 0 0, .int .i64 0, .int .i64 0] 46)) (.cells #[.pointer (some ⟨w0.heap.size, 0, none⟩), .pointer (some ⟨w1.heap.size, 0, none⟩)] 28)
    simpa using e
  · rw [heap_alloc_old _ _ (by simp; omega), heap_alloc_old _ _ (by simp)]
    exact heap_alloc_new w1 _
  · rintro k (rfl | rfl | e | e)
    · exact ⟨by omega, by omega⟩
    · exact ⟨by omega, by omega⟩
    · exact (none_own k e).elim
    · exact (none_own k e).elim

set_option maxRecDepth 100000 in
set_option maxHeartbeats 400000 in
theorem begun_any (w : World) (hhd : HdLaid w) (hten : TenLaid w) :
    Calls Tryz.prog 6 #[] w (BegunPost w) := by
  have HHD := hide hhd
  have HTEN := hide hten
  clear hhd hten
  go_enter Tryz.func6, Tryz.ntmps6
  go_wp2_with fail
  obtain ⟨w0, hw0⟩ : ∃ w0, w.alloc (.cells #[.pointer none, .pointer none] 28) = w0 := ⟨_, rfl⟩
  have HX0 : Hid (Ext (fun _ => False) w w0) := by rw [← hw0]; exact (Ext.refl _ w).alloc _
  have HK0 : Hid (w0.heap[w.heap.size]? = some (.cells #[.pointer none, .pointer none] 28)) := by rw [← hw0]; exact heap_alloc_new w _
  have HS0 : Hid (w0.heap.size = w.heap.size + 1) := by rw [← hw0]; show _ = _; simp
  rw [hw0]
  clear hw0
  refine (p_new w0).mono ?_
  rintro e w1 ⟨rfl, hx1, hp1, hs1⟩
  have hB := bg_start HX0.out HK0.out HS0.out hx1 hp1 hs1 (.cells #[.slice none 0 0, .slice none 0 0, .int .i64 0] 36)
  have HB := hide hB
  clear hx1 hp1 hs1 hB
  go_wp2_with fail
  obtain ⟨w2, hw2⟩ : ∃ w2, ((w1.alloc (.cells #[.slice none 0 0, .slice none 0 0, .int .i64 0, .int .i64 0] 46)).alloc (.cells #[.pointer (some ⟨w0.heap.size, 0, none⟩), .pointer (some ⟨w1.heap.size, 0, none⟩)] 28)).alloc (.cells #[.slice none 0 0, .slice none 0 0, .int .i64 0] 36) = w2 := ⟨_, rfl⟩
  have HB2 := hide (hw2 ▸ HB.out)
  rw [hw2]
  clear hw2 HB
  refine (step_decl 0 bX 0 _ HB2.out.pair (by decide)).mono ?_
  rintro e w3 hp
  obtain ⟨rfl, pv3, rv3, hB3⟩ := bg_step HB2.out hp
  rw [decl_x] at hB3
  have c0 := cell_of_block hB3.pbk 0
  have c1 := cell_of_block hB3.pbk 1
  have HB3 := hide hB3
  clear hp hB3 HB2
  go_wp2_with fail
  clear c0 c1
  refine (step_decl 0 bY 0 _ HB3.out.pair (by decide)).mono ?_
  rintro e w4 hp
  obtain ⟨rfl, pv4, rv4, hB4⟩ := bg_step HB3.out hp
  rw [decl_y] at hB4
  have c0 := cell_of_block hB4.pbk 0
  have c1 := cell_of_block hB4.pbk 1
  have HB4 := hide hB4
  clear hp hB4 HB3
  go_wp2_with fail
  clear c0 c1
  refine (step_decl 0 bF 1 _ HB4.out.pair (by decide)).mono ?_
  rintro e w5 hp
  obtain ⟨rfl, pv5, rv5, hB5⟩ := bg_step HB4.out hp
  rw [decl_f] at hB5
  have c0 := cell_of_block hB5.pbk 0
  have c1 := cell_of_block hB5.pbk 1
  have HB5 := hide hB5
  clear hp hB5 HB4
  go_wp2_with fail
  clear c0 c1
  refine (p_tidy bEx w5 (by decide) HB5.out.pair.p.tab (HHD.out.ext HB5.out.ext (fun f => f)) (HTEN.out.ext HB5.out.ext (fun f => f))).mono ?_
  rintro e w6 ⟨X, rfl, hX, hx6⟩
  have hXb : X = ⟨#[40, 61, 32, 40, 102, 32, 120, 41, 32, 121, 41]⟩ := bytes_ext (hX.trans (by rw [tidy_ex]; rfl))
  subst hXb
  rw [tidy_ex]
  have k0 := (hx6.block _ (block_lt HB5.out.pbk) (fun f => f)).trans HB5.out.pbk
  have kr := (hx6.block _ (block_lt HB5.out.res) (fun f => f)).trans HB5.out.res
  have c0 := cell_of_block k0 0
  have c1 := cell_of_block k0 1
  have d0 := cell_of_block kr 0
  have d1 := cell_of_block kr 1
  have d0f := frozen_of_block kr 0
  have d1f := frozen_of_block kr 1
  have HX6 := hide hx6
  clear hX hx6 k0 kr
  go_wp2_with fail
  refine bodyPost_ret (v := .tuple #[.agg #[.pointer (some ⟨w0.heap.size, 0, none⟩), .pointer (some ⟨w1.heap.size, 0, none⟩)], .bool true]) (by simp [results, Tryz.results6, go_sem, d0, d1]) rfl ?_
  have hs5 := HB5.out.ext.size
  have hxr : Ext (fun k => k = w.heap.size) w5 ((w6.setCell ⟨w.heap.size, 0, none⟩ (.pointer (some ⟨w0.heap.size, 0, none⟩))).setCell ⟨w.heap.size, 1, none⟩ (.pointer (some ⟨w1.heap.size, 0, none⟩))) :=
    ((HX6.out.mono (T := fun k => k = w.heap.size) (fun _ _ f => f.elim)).setCell (p := ⟨w.heap.size, 0, none⟩) (fun _ => rfl) _).setCell (p := ⟨w.heap.size, 1, none⟩) (fun _ => rfl) _
  refine ⟨_, _, pv5, rv5, rfl, HB5.out.ext.trans' hxr (fun i hi e => by omega), HB5.out.pair.ext hxr (fun k hk e => by have := (HB5.out.foot k hk).1; omega), fun k hk => Nat.le_of_lt (HB5.out.foot k hk).1⟩

end Go.Proofs.YtihpglkehkgioaaGreatDoor

/- The law: what a script asks of the sessions that it is played on; two of them beside one another. -/
namespace Go.Proofs.YtihpglkehkgioaaGreatDoor
open Go.RowKit Ar

/-- What a step of a pair leaves: true; only blocks of its own have turned; what it owns now is its own or new. -/
def StepPost (G : Nat → Nat → World → (Nat → Prop) → Prop) (ps rs : Nat) (w : World) (F : Nat → Prop) (e : Ending) (w' : World) : Prop :=
  e = .returned (.bool true) ∧ Ext F w w' ∧ ∃ F', G ps rs w' F' ∧ ∀ k, F' k → F k ∨ w.heap.size ≤ k

/-- G: what holds of a pair (of its two blocks, in a world, with the blocks that it owns); it begins, it stays where its blocks do, it is kept by every step of a kind up to most. -/
structure Game (most : Int) (G : Nat → Nat → World → (Nat → Prop) → Prop) : Prop where
  ext : ∀ (ps rs : Nat) (w w' : World) (F S : Nat → Prop), G ps rs w F → Ext S w w' → (∀ k, F k → ¬ S k) → G ps rs w' F
  lt : ∀ (ps rs : Nat) (w : World) (F : Nat → Prop), G ps rs w F → ∀ k, F k → k < w.heap.size
  start : ∀ (w : World) (ps rs : Nat) (pv rv : Value), PairI w ps rs nms3 pv rv px0 (.slice none 0 0) 0 → G ps rs w (Foot ps rs pv rv)
  step : ∀ (w : World) (ps rs : Nat) (F : Nat → Prop) (k on : Int) (s : ByteArray) (a : Int) (bk : Value), G ps rs w F → HdLaid w → TenLaid w → k ≤ most → s.size ≤ maxLen →
    Calls Tryz.prog 8 #[.agg #[.pointer (some ⟨ps, 0, none⟩), .pointer (some ⟨rs, 0, none⟩)], .agg #[.int .i64 k, .int .i64 on, .string s, .int .i64 a], bk] w (StepPost G ps rs w F)

/-- The two pairs of a script, its list of them, its book. -/
structure Mid (W : World) (G : Nat → Nat → World → (Nat → Prop) → Prop) (lb bb p1 r1 p2 r2 : Nat) (w : World) : Prop where
  ext : Ext (fun _ => False) W w
  lst : w.heap[lb]? = some (.cells #[.pointer (some ⟨p1, 0, none⟩), .pointer (some ⟨r1, 0, none⟩), .pointer (some ⟨p2, 0, none⟩), .pointer (some ⟨r2, 0, none⟩)] 28)
  bok : w.heap[bb]? = some (.cells #[.slice none 0 0, .slice none 0 0, .int .i64 0] 36)
  two : ∃ F1 F2, G p1 r1 w F1 ∧ G p2 r2 w F2 ∧ (∀ k, F1 k → ¬ F2 k) ∧ (∀ k, F1 k → W.heap.size ≤ k ∧ ¬ k = lb ∧ ¬ k = bb) ∧ (∀ k, F2 k → W.heap.size ≤ k ∧ ¬ k = lb ∧ ¬ k = bb)

/-- A step on one of two pairs: the other stays. -/
theorem mid_next {most : Int} {G : Nat → Nat → World → (Nat → Prop) → Prop} (hG : Game most G) {W w w' : World} {lb bb p2 r2 : Nat} {F1 F2 F1' : Nat → Prop} {cl cb : Array Value} {tl tb : Nat}
    (hW : Ext (fun _ => False) W w) (hl : w.heap[lb]? = some (.cells cl tl)) (hb : w.heap[bb]? = some (.cells cb tb)) (g2 : G p2 r2 w F2) (hd : ∀ k, F1 k → ¬ F2 k)
    (h1 : ∀ k, F1 k → W.heap.size ≤ k ∧ ¬ k = lb ∧ ¬ k = bb) (hx : Ext F1 w w') (hF : ∀ k, F1' k → F1 k ∨ w.heap.size ≤ k) :
    Ext (fun _ => False) W w' ∧ w'.heap[lb]? = some (.cells cl tl) ∧ w'.heap[bb]? = some (.cells cb tb) ∧ G p2 r2 w' F2 ∧ (∀ k, F1' k → ¬ F2 k) ∧ (∀ k, F1' k → W.heap.size ≤ k ∧ ¬ k = lb ∧ ¬ k = bb) := by
  have s0 := hW.size
  have l1 := block_lt hl
  have l2 := block_lt hb
  refine ⟨hW.trans' hx (fun i hi f => by have := (h1 i f).1; omega), (hx.block lb l1 (fun f => (h1 lb f).2.1 rfl)).trans hl, (hx.block bb l2 (fun f => (h1 bb f).2.2 rfl)).trans hb, hG.ext p2 r2 w w' F2 F1 g2 hx (fun k h2 h => hd k h h2), ?_, ?_⟩
  · intro k hk h2
    rcases hF k hk with h | h
    · exact hd k h h2
    · have := hG.lt p2 r2 w F2 g2 k h2
      omega
  · intro k hk
    rcases hF k hk with h | h
    · exact h1 k h
    · exact ⟨by omega, by omega, by omega⟩

/-- The step on the first pair. -/
theorem mid_one {most : Int} {G : Nat → Nat → World → (Nat → Prop) → Prop} (hG : Game most G) {W w w' : World} {lb bb p1 r1 p2 r2 : Nat} {F1 F2 F1' : Nat → Prop} (hW : Ext (fun _ => False) W w)
    (hl : w.heap[lb]? = some (.cells #[.pointer (some ⟨p1, 0, none⟩), .pointer (some ⟨r1, 0, none⟩), .pointer (some ⟨p2, 0, none⟩), .pointer (some ⟨r2, 0, none⟩)] 28))
    (hb : w.heap[bb]? = some (.cells #[.slice none 0 0, .slice none 0 0, .int .i64 0] 36)) (g2 : G p2 r2 w F2) (hd : ∀ k, F1 k → ¬ F2 k)
    (h1 : ∀ k, F1 k → W.heap.size ≤ k ∧ ¬ k = lb ∧ ¬ k = bb) (h2 : ∀ k, F2 k → W.heap.size ≤ k ∧ ¬ k = lb ∧ ¬ k = bb) (hx : Ext F1 w w') (g1 : G p1 r1 w' F1') (hF : ∀ k, F1' k → F1 k ∨ w.heap.size ≤ k) : Mid W G lb bb p1 r1 p2 r2 w' := by
  obtain ⟨a, b, c, d, e, f⟩ := mid_next hG hW hl hb g2 hd h1 hx hF
  exact ⟨a, b, c, F1', F2, g1, d, e, f, h2⟩

/-- The step on the second pair. -/
theorem mid_two {most : Int} {G : Nat → Nat → World → (Nat → Prop) → Prop} (hG : Game most G) {W w w' : World} {lb bb p1 r1 p2 r2 : Nat} {F1 F2 F2' : Nat → Prop} (hW : Ext (fun _ => False) W w)
    (hl : w.heap[lb]? = some (.cells #[.pointer (some ⟨p1, 0, none⟩), .pointer (some ⟨r1, 0, none⟩), .pointer (some ⟨p2, 0, none⟩), .pointer (some ⟨r2, 0, none⟩)] 28))
    (hb : w.heap[bb]? = some (.cells #[.slice none 0 0, .slice none 0 0, .int .i64 0] 36)) (g1 : G p1 r1 w F1) (hd : ∀ k, F1 k → ¬ F2 k)
    (h1 : ∀ k, F1 k → W.heap.size ≤ k ∧ ¬ k = lb ∧ ¬ k = bb) (h2 : ∀ k, F2 k → W.heap.size ≤ k ∧ ¬ k = lb ∧ ¬ k = bb) (hx : Ext F2 w w') (g2 : G p2 r2 w' F2') (hF : ∀ k, F2' k → F2 k ∨ w.heap.size ≤ k) : Mid W G lb bb p1 r1 p2 r2 w' := by
  obtain ⟨a, b, c, d, e, f⟩ := mid_next hG hW hl hb g1 (fun k h h' => hd k h' h) h2 hx hF
  exact ⟨a, b, c, F1, F2', d, g2, fun k h h' => e k h' h, h1, f⟩

/-- A script as it lies in memory: four cells a step. -/
def Script (W : World) (sa : Option Addr) (n : Nat) : Prop :=
  ∀ i, i < n → ∃ (b off : Nat) (k on : Int) (s : ByteArray) (a : Int), sa = some ⟨b, off, none⟩ ∧ b < W.heap.size ∧ s.size ≤ maxLen ∧ -9223372036854775808 ≤ on ∧ on ≤ 9223372036854775807 ∧
    W.cell? ⟨b, off + i * 4, none⟩ = some (.int .i64 k) ∧ W.cell? ⟨b, off + i * 4 + 1, none⟩ = some (.int .i64 on) ∧ W.cell? ⟨b, off + i * 4 + 2, none⟩ = some (.string s) ∧ W.cell? ⟨b, off + i * 4 + 3, none⟩ = some (.int .i64 a)

/-- What holds of a pair while Declare and Tidy alone are called. -/
def ReadsG (ps rs : Nat) (w : World) (F : Nat → Prop) : Prop := ∃ N pv rv, 0 < N.length ∧ PairI w ps rs N pv rv px0 (.slice none 0 0) 0 ∧ F = Foot ps rs pv rv

theorem declNames_pos {N : List Nm} {F : Int} {s : ByteArray} {a : Int} (h : 0 < N.length) : 0 < (declNames N F s a).length := by
  unfold declNames
  split
  · simp
  · exact h

theorem StepPost.of_pair {w : World} {ps rs : Nat} {N' : List Nm} {pv rv : Value} {e : Ending} {w' : World} (h : PairPost w ps rs N' pv rv px0 (.slice none 0 0) 0 e w') (hN : 0 < N'.length) : StepPost ReadsG ps rs w (Foot ps rs pv rv) e w' := by
  obtain ⟨h1, h2, pv', rv', h3, h4⟩ := h
  exact ⟨h1, h2, Foot ps rs pv' rv', ⟨N', pv', rv', hN, h3, rfl⟩, h4⟩

theorem reads_game : Game 2 ReadsG where
  ext := by
    rintro ps rs w w' F S ⟨N, pv, rv, hN, hP, rfl⟩ hx hS
    exact ⟨N, pv, rv, hN, hP.ext hx hS, rfl⟩
  lt := by
    rintro ps rs w F ⟨N, pv, rv, hN, hP, rfl⟩
    exact hP.lt
  start := fun w ps rs pv rv h => ⟨nms3, pv, rv, by decide, h, rfl⟩
  step := by
    rintro w ps rs F k on s a bk ⟨N, pv, rv, hN, hP, rfl⟩ hhd hten hk hs
    by_cases h1 : k = 1
    · subst h1
      exact (step_decl on s a bk hP hs).mono fun e w' h => StepPost.of_pair h (declNames_pos hN)
    by_cases h2 : k = 2
    · subst h2
      exact (step_tidy on s a bk hP hs hN hhd hten).mono fun e w' h => StepPost.of_pair h hN
    · exact (step_none k on s a bk hP (by omega)).mono fun e w' h => StepPost.of_pair h hN

end Go.Proofs.YtihpglkehkgioaaGreatDoor

/- The law: a script is played. -/
namespace Go.Proofs.YtihpglkehkgioaaGreatDoor
open Go.RowKit Ar

theorem mid_start {most : Int} {G : Nat → Nat → World → (Nat → Prop) → Prop} (hG : Game most G) {W w1 v1 w2 : World} {p1 r1 p2 r2 : Nat} {pv1 rv1 pv2 rv2 : Value} (hx1 : Ext (fun _ => False) W w1) (hP1 : PairI w1 p1 r1 nms3 pv1 rv1 px0 (.slice none 0 0) 0) (hF1 : ∀ k, Foot p1 r1 pv1 rv1 k → W.heap.size ≤ k)
    (hv1 : Ext (fun _ => False) w1 v1) (hx2 : Ext (fun _ => False) v1 w2) (hP2 : PairI w2 p2 r2 nms3 pv2 rv2 px0 (.slice none 0 0) 0) (hF2 : ∀ k, Foot p2 r2 pv2 rv2 k → v1.heap.size ≤ k) :
    Mid W G (w2.heap.size + 1) (w2.heap.size + 1 + 1) p1 r1 p2 r2 (((w2.alloc (.cells #[.pointer (some ⟨p2, 0, none⟩), .pointer (some ⟨r2, 0, none⟩)] 28)).alloc (.cells #[.pointer (some ⟨p1, 0, none⟩), .pointer (some ⟨r1, 0, none⟩), .pointer (some ⟨p2, 0, none⟩), .pointer (some ⟨r2, 0, none⟩)] 28)).alloc (.cells #[.slice none 0 0, .slice none 0 0, .int .i64 0] 36)) := by
  have hx3 : Ext (fun _ => False) w2 (((w2.alloc (.cells #[.pointer (some ⟨p2, 0, none⟩), .pointer (some ⟨r2, 0, none⟩)] 28)).alloc (.cells #[.pointer (some ⟨p1, 0, none⟩), .pointer (some ⟨r1, 0, none⟩), .pointer (some ⟨p2, 0, none⟩), .pointer (some ⟨r2, 0, none⟩)] 28)).alloc (.cells #[.slice none 0 0, .slice none 0 0, .int .i64 0] 36)) := (((Ext.refl _ w2).alloc _).alloc _).alloc _
  have s1 := hx1.size
  have s2 := hv1.size
  have s3 := hx2.size
  refine ⟨((hx1.trans hv1).trans hx2).trans hx3, ?_, ?_, Foot p1 r1 pv1 rv1, Foot p2 r2 pv2 rv2, hG.start _ _ _ _ _ (hP1.ext ((hv1.trans hx2).trans hx3) (fun _ _ f => f)), hG.start _ _ _ _ _ (hP2.ext hx3 (fun _ _ f => f)), ?_, ?_, ?_⟩
  · rw [heap_alloc_old _ _ (by simp)]
    have e := heap_alloc_new (w2.alloc (.cells #[.pointer (some ⟨p2, 0, none⟩), .pointer (some ⟨r2, 0, none⟩)] 28)) (.cells #[.pointer (some ⟨p1, 0, none⟩), .pointer (some ⟨r1, 0, none⟩), .pointer (some ⟨p2, 0, none⟩), .pointer (some ⟨r2, 0, none⟩)] 28)
    simpa using e
  · have e := heap_alloc_new ((w2.alloc (.cells #[.pointer (some ⟨p2, 0, none⟩), .pointer (some ⟨r2, 0, none⟩)] 28)).alloc (.cells #[.pointer (some ⟨p1, 0, none⟩), .pointer (some ⟨r1, 0, none⟩), .pointer (some ⟨p2, 0, none⟩), .pointer (some ⟨r2, 0, none⟩)] 28)) (.cells #[.slice none 0 0, .slice none 0 0, .int .i64 0] 36)
    simpa using e
  · intro k h1 h2
    have := hP1.lt k h1
    have := hF2 k h2
    omega
  · intro k h1
    have := hP1.lt k h1
    have := hF1 k h1
    omega
  · intro k h2
    have := hP2.lt k h2
    have := hF2 k h2
    omega

set_option maxRecDepth 100000 in
set_option maxHeartbeats 1000000 in
theorem plays_any {most : Int} {G : Nat → Nat → World → (Nat → Prop) → Prop} (hG : Game most G) (hm : most < 7) (W : World) (sa : Option Addr) (n cap : Nat) (hn : n ≤ maxLen) (hS : Script W sa n) (hhd : HdLaid W) (hten : TenLaid W) :
    Calls Tryz.prog 5 #[.slice sa n cap, .int .i64 most] W fun e w' => e = .returned (.bool true) ∧ Ext (fun _ => False) W w' := by
  have HHD := hide hhd
  have HTEN := hide hten
  have HS := hide hS
  have HG := hide hG
  clear hhd hten hS hG
  go_enter Tryz.func5, Tryz.ntmps5
  go_wp2_with fail
  refine (begun_any W HHD.out HTEN.out).mono ?_
  rintro e w1 ⟨p1, r1, pv1, rv1, rfl, hx1, hP1, hF1⟩
  have HX1 := hide hx1
  have HP1 := hide hP1
  have HF1 := hide hF1
  clear hx1 hP1 hF1
  go_wp2_with fail
  obtain ⟨v1, hv1⟩ : ∃ v1, w1.alloc (.cells #[.pointer (some ⟨p1, 0, none⟩), .pointer (some ⟨r1, 0, none⟩)] 28) = v1 := ⟨_, rfl⟩
  have HV1 : Hid (Ext (fun _ => False) w1 v1) := by rw [← hv1]; exact (Ext.refl _ w1).alloc _
  have HK1 : Hid (v1.heap[w1.heap.size]? = some (.cells #[.pointer (some ⟨p1, 0, none⟩), .pointer (some ⟨r1, 0, none⟩)] 28)) := by rw [← hv1]; exact heap_alloc_new w1 _
  rw [hv1]
  clear hv1
  refine (begun_any v1 (HHD.out.ext (HX1.out.trans HV1.out) (fun f => f)) (HTEN.out.ext (HX1.out.trans HV1.out) (fun f => f))).mono ?_
  rintro e w2 ⟨p2, r2, pv2, rv2, rfl, hx2, hP2, hF2⟩
  have k1 := (hx2.block _ (block_lt HK1.out) (fun f => f)).trans HK1.out
  have c10 := cell_of_block k1 0
  have c11 := cell_of_block k1 1
  have hlt := block_lt k1
  have HX2 := hide hx2
  have HP2 := hide hP2
  have HF2 := hide hF2
  clear hx2 hP2 hF2 k1
  go_wp2_with fail
  have hM := mid_start HG.out HX1.out HP1.out HF1.out HV1.out HX2.out HP2.out HF2.out
  have HM := hide hM
  clear hM c10 c11 hlt HX1 HP1 HF1 HV1 HX2 HP2 HF2 HK1
  go_loopw [11] (fun i wr => ∃ k : Nat, k ≤ n ∧ i = .int .i64 k ∧ Mid W G (w2.heap.size + 1) (w2.heap.size + 1 + 1) p1 r1 p2 r2 wr) (fun i _ => n - (intOf i).toNat)
  case atStart => exact ⟨0, Nat.zero_le _, rfl, HM.out⟩
  case round =>
    clear HM
    obtain ⟨k, hk, rfl, hM⟩ := hrel
    have HM := hide hM
    clear hM
    have hmx : n ≤ 9223372036854775807 := by unfold maxLen at hn; omega
    by_cases hlt : k < n
    · obtain ⟨b, off, kd, on, s, a, rfl, hb, hs, ho1, ho2, c0, c1, c2, c3⟩ := HS.out k hlt
      have hx := HM.out.ext
      rw [← hx.cell (p := ⟨b, off + k * 4, none⟩) hb (fun f => f)] at c0
      rw [← hx.cell (p := ⟨b, off + k * 4 + 1, none⟩) hb (fun f => f)] at c1
      rw [← hx.cell (p := ⟨b, off + k * 4 + 2, none⟩) hb (fun f => f)] at c2
      rw [← hx.cell (p := ⟨b, off + k * 4 + 3, none⟩) hb (fun f => f)] at c3
      have HOn : Hid (-9223372036854775808 ≤ on ∧ on ≤ 9223372036854775807) := ⟨ho1, ho2⟩
      have HSZ := hide hs
      clear hx ho1 ho2 hs
      by_cases hmost : most < kd
      · go_wp2_with fail
        exact ⟨⟨k + 1, by omega, by go_num, HM.out⟩, by simp [intOf]; omega⟩
      · have l0 := cell_of_block HM.out.lst 0
        have l1 := cell_of_block HM.out.lst 1
        have l2 := cell_of_block HM.out.lst 2
        have l3 := cell_of_block HM.out.lst 3
        have HK : Hid (kd ≤ most) := by show _ ≤ _; omega
        have hmy := HM.out
        obtain ⟨hxW, hlst, hbok, F1, F2, g1, g2, hd, h1, h2⟩ := hmy
        have hhdr := HHD.out.ext hxW (fun f => f)
        have htenr := HTEN.out.ext hxW (fun f => f)
        have HTWO : Hid (G p1 r1 wr F1 ∧ G p2 r2 wr F2 ∧ (∀ k, F1 k → ¬ F2 k) ∧ (∀ k, F1 k → W.heap.size ≤ k ∧ ¬ k = w2.heap.size + 1 ∧ ¬ k = w2.heap.size + 1 + 1) ∧ (∀ k, F2 k → W.heap.size ≤ k ∧ ¬ k = w2.heap.size + 1 ∧ ¬ k = w2.heap.size + 1 + 1)) := ⟨g1, g2, hd, h1, h2⟩
        have HLAID : Hid (HdLaid wr ∧ TenLaid wr) := ⟨hhdr, htenr⟩
        clear hxW hlst hbok g1 g2 hd h1 h2 hhdr htenr
        have HPK := hide (fun w => pick_two on w HOn.out.1 HOn.out.2)
        rcases pickOf_two on with hp | hp
        · rw [hp] at HPK
          clear hp
          go_wp2_with fail
          go_region_law (go_simp; go_wp2_with (first | (go_at_call 7; refine (HPK.out _).mono ?_; rintro e w' ⟨rfl, rfl⟩) | (go_at_call 8; refine (HG.out.step _ p1 r1 F1 kd on s a _ (HG.out.ext _ _ _ _ _ (fun _ => False) HTWO.out.1 ((Ext.refl _ wr).drew) (fun _ _ f => f)) (HLAID.out.1.ext ((Ext.refl (fun _ => False) wr).drew) (fun f => f)) (HLAID.out.2.ext ((Ext.refl (fun _ => False) wr).drew) (fun f => f)) HK.out HSZ.out).mono ?_; rintro e w' ⟨rfl, hx, F1', g1', hF'⟩)))
          all_goals
            have hN := mid_one HG.out (w := wr.drew) HM.out.ext.drew HM.out.lst HM.out.bok (HG.out.ext _ _ _ _ _ (fun _ => False) HTWO.out.2.1 ((Ext.refl _ wr).drew) (fun _ _ f => f)) HTWO.out.2.2.1 HTWO.out.2.2.2.1 HTWO.out.2.2.2.2 hx g1' hF'
            have HN := hide hN
            clear hx g1' hF' hN l0 l1 l2 l3 c0 c1 c2 c3 HM HTWO HLAID HPK
            go_wp2_with (go_at_call 9; refine (looks_none (w2.heap.size + 1 + 1) _ _ HN.out.bok).mono ?_; rintro e w'' ⟨rfl, rfl⟩)
            exact ⟨⟨k + 1, by omega, by go_num, HN.out⟩, by simp [intOf]; omega⟩
        · rw [hp] at HPK
          clear hp
          go_wp2_with fail
          go_region_law (go_simp; go_wp2_with (first | (go_at_call 7; refine (HPK.out _).mono ?_; rintro e w' ⟨rfl, rfl⟩) | (go_at_call 8; refine (HG.out.step _ p2 r2 F2 kd on s a _ (HG.out.ext _ _ _ _ _ (fun _ => False) HTWO.out.2.1 ((Ext.refl _ wr).drew) (fun _ _ f => f)) (HLAID.out.1.ext ((Ext.refl (fun _ => False) wr).drew) (fun f => f)) (HLAID.out.2.ext ((Ext.refl (fun _ => False) wr).drew) (fun f => f)) HK.out HSZ.out).mono ?_; rintro e w' ⟨rfl, hx, F1', g1', hF'⟩)))
          all_goals
            have hN := mid_two HG.out (w := wr.drew) HM.out.ext.drew HM.out.lst HM.out.bok (HG.out.ext _ _ _ _ _ (fun _ => False) HTWO.out.1 ((Ext.refl _ wr).drew) (fun _ _ f => f)) HTWO.out.2.2.1 HTWO.out.2.2.2.1 HTWO.out.2.2.2.2 hx g1' hF'
            have HN := hide hN
            clear hx g1' hF' hN l0 l1 l2 l3 c0 c1 c2 c3 HM HTWO HLAID HPK
            go_wp2_with (go_at_call 9; refine (looks_none (w2.heap.size + 1 + 1) _ _ HN.out.bok).mono ?_; rintro e w'' ⟨rfl, rfl⟩)
            exact ⟨⟨k + 1, by omega, by go_num, HN.out⟩, by simp [intOf]; omega⟩
    · go_wp2_with fail
      go_ret
      exact ⟨rfl, HM.out.ext⟩

end Go.Proofs.YtihpglkehkgioaaGreatDoor
