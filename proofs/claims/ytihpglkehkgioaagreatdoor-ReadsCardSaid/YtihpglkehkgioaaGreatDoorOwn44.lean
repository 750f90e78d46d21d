/- The law: a session of each side is begun; The law: what a script asks of the sessions that it is played on; two of them beside one another. -/
import Derived.Test.YtihpglkehkgioaaGreatDoorOwn43
/- The law: a session of each side is begun. -/
namespace Go.Proofs.YtihpglkehkgioaaGreatDoor
open Go.RowKit Ar

def bX : ByteArray := ⟨#[120]⟩
def bY : ByteArray := ⟨#[121]⟩
def bF : ByteArray := ⟨#[102]⟩
/-- The document's first example, as it is handed in, and in its one form. -/
def bEx : ByteArray := ⟨#[32, 40, 32, 61, 32, 32, 40, 102, 32, 120, 41, 32, 32, 121, 41]⟩
def bForm : ByteArray := ⟨#[40, 61, 32, 40, 102, 32, 120, 41, 32, 121, 41]⟩

/-- The names that a session begins with. -/
def nms3 : List Nm := [⟨bX, 0, 0⟩, ⟨bY, 0, 0⟩, ⟨bF, 1, 0⟩]

theorem decl_x : declNames [] 0 bX 0 = [⟨bX, 0, 0⟩] := by rw [declNames, if_pos (by kernel_rfl)]; rfl
theorem decl_y : declNames [⟨bX, 0, 0⟩] 0 bY 0 = [⟨bX, 0, 0⟩, ⟨bY, 0, 0⟩] := by rw [declNames, if_pos (by kernel_rfl)]; rfl
theorem decl_f : declNames [⟨bX, 0, 0⟩, ⟨bY, 0, 0⟩] 0 bF 1 = nms3 := by rw [declNames, if_pos (by kernel_rfl)]; rfl
theorem tidy_ex : tidyOut nms3 bEx = (bForm.toList, 0, 0) := by kernel_rfl

def BegunPost (w : World) (e : Ending) (w' : World) : Prop :=
  ∃ ps rs pv rv, e = .returned (.tuple #[.agg #[.pointer (some ⟨ps, 0, none⟩), .pointer (some ⟨rs, 0, none⟩)], .bool true]) ∧ Ext (fun _ => False) w w' ∧ PairI w' ps rs nms3 pv rv px0 (.slice none 0 0) 0 ∧ (∀ k, Foot ps rs pv rv k → w.heap.size ≤ k)

/-- A session that is being begun: rb: where the answer will lie; pb: where the pair lies. -/
structure Bg (w : World) (pb ps rs : Nat) (N : List Nm) (pv rv : Value) (wi : World) : Prop where
  ext : Ext (fun _ => False) w wi
  res : wi.heap[w.heap.size]? = some (.cells #[.pointer none, .pointer none] 28)
  pbk : wi.heap[pb]? = some (.cells #[.pointer (some ⟨ps, 0, none⟩), .pointer (some ⟨rs, 0, none⟩)] 28)
  pair : PairI wi ps rs N pv rv px0 (.slice none 0 0) 0
  foot : ∀ k, Foot ps rs pv rv k → w.heap.size < k ∧ ¬ k = pb

theorem bg_step {w wi w' : World} {pb ps rs : Nat} {N N' : List Nm} {pv rv : Value} {e : Ending} (h : Bg w pb ps rs N pv rv wi) (hp : PairPost wi ps rs N' pv rv px0 (.slice none 0 0) 0 e w') :
    e = .returned (.bool true) ∧ ∃ pv' rv', Bg w pb ps rs N' pv' rv' w' := by
  obtain ⟨he, hx, pv', rv', hP, hF⟩ := hp
  have s0 := h.ext.size
  have l1 := block_lt h.res
  have l2 := block_lt h.pbk
  refine ⟨he, pv', rv', h.ext.trans' hx (fun i hi f => by have := (h.foot i f).1; omega), (hx.block _ l1 (fun f => by have := (h.foot _ f).1; omega)).trans h.res, (hx.block _ l2 (fun f => (h.foot _ f).2 rfl)).trans h.pbk, hP, ?_⟩
  intro k hk
  rcases hF k hk with hf | hf
  · exact h.foot k hf
  · exact ⟨by omega, by omega⟩

theorem bg_start {w w0 w1 : World} (hx0 : Ext (fun _ => False) w w0) (hk0 : w0.heap[w.heap.size]? = some (.cells #[.pointer none, .pointer none] 28)) (hs0 : w0.heap.size = w.heap.size + 1)
    (hx1 : Ext (fun _ => False) w0 w1) (hp1 : PS w1 w0.heap.size [] (.slice none 0 0) px0) (hs1 : w1.heap.size = w0.heap.size + 1) (bk : Obj) :
    Bg w (w1.heap.size + 1) w0.heap.size w1.heap.size [] (.slice none 0 0) (.slice none 0 0) (((w1.alloc (.cells #[.slice none 0 0, .slice none 0 0, .int .i64 0, .int .i64 0] 46)).alloc (.cells #[.pointer (some ⟨w0.heap.size, 0, none⟩), .pointer (some ⟨w1.heap.size, 0, none⟩)] 28)).alloc bk) := by
  have hx : Ext (fun _ => False) w1 (((w1.alloc (.cells #[.slice none 0 0, .slice none 0 0, .int .i64 0, .int .i64 0] 46)).alloc (.cells #[.pointer (some ⟨w0.heap.size, 0, none⟩), .pointer (some ⟨w1.heap.size, 0, none⟩)] 28)).alloc bk) := (((Ext.refl _ w1).alloc _).alloc _).alloc _
  have none_own : ∀ g, (Value.slice none 0 0).ownBlock = some g → False := fun g hg => absurd hg (by simp [Value.ownBlock])
  refine ⟨(hx0.trans hx1).trans hx, ?_, ?_, ⟨hp1.ext hx (fun f => f) (fun _ _ f => f), ⟨⟨0, ?_⟩, World.ownsRow_nil _ _ _ _, fun g hg => (none_own g hg).elim, by simp, fun _ h => absurd h (by simp)⟩, by omega, fun g hg => (none_own g hg).elim, fun g hg => (none_own g hg).elim, fun g hg => (none_own g hg).elim⟩, ?_⟩
  · exact ((hx1.trans hx).block _ (by omega) (fun f => f)).trans hk0
  · rw [heap_alloc_old _ _ (by simp)]
    have e := heap_alloc_new (w1.alloc (.cells #[.slice none 0 0, .slice none 0 0, .int .i64 0, .int .i64 0] 46)) (.cells #[.pointer (some ⟨w0.heap.size, 0, none⟩), .pointer (some ⟨w1.heap.size, 0, none⟩)] 28)
    simpa using e
  · rw [heap_alloc_old _ _ (by simp; omega), heap_alloc_old _ _ (by simp)]
    exact heap_alloc_new w1 _
  · rintro k (rfl | rfl | e | e)
    · exact ⟨by omega, by omega⟩
    · exact ⟨by omega, by omega⟩
    · exact (none_own k e).elim
    · exact (none_own k e).elim

set_option maxRecDepth 100000 in
set_option maxHeartbeats 400000 in
theorem begun_any (w : World) (hhd : HdLaid w) (hten : TenLaid w) :
    Calls Tryz.prog 6 #[] w (BegunPost w) := by
  have HHD := hide hhd
  have HTEN := hide hten
  clear hhd hten
  go_enter Tryz.func6, Tryz.ntmps6
  go_wp2_with fail
  obtain ⟨w0, hw0⟩ : ∃ w0, w.alloc (.cells #[.pointer none, .pointer none] 28) = w0 := ⟨_, rfl⟩
  have HX0 : Hid (Ext (fun _ => False) w w0) := by rw [← hw0]; exact (Ext.refl _ w).alloc _
  have HK0 : Hid (w0.heap[w.heap.size]? = some (.cells #[.pointer none, .pointer none] 28)) := by rw [← hw0]; exact heap_alloc_new w _
  have HS0 : Hid (w0.heap.size = w.heap.size + 1) := by rw [← hw0]; show _ = _; simp
  rw [hw0]
  clear hw0
  refine (p_new w0).mono ?_
  rintro e w1 ⟨rfl, hx1, hp1, hs1⟩
  have hB := bg_start HX0.out HK0.out HS0.out hx1 hp1 hs1 (.cells #[.slice none 0 0, .slice none 0 0, .int .i64 0] 36)
  have HB := hide hB
  clear hx1 hp1 hs1 hB
  go_wp2_with fail
  obtain ⟨w2, hw2⟩ : ∃ w2, ((w1.alloc (.cells #[.slice none 0 0, .slice none 0 0, .int .i64 0, .int .i64 0] 46)).alloc (.cells #[.pointer (some ⟨w0.heap.size, 0, none⟩), .pointer (some ⟨w1.heap.size, 0, none⟩)] 28)).alloc (.cells #[.slice none 0 0, .slice none 0 0, .int .i64 0] 36) = w2 := ⟨_, rfl⟩
  have HB2 := hide (hw2 ▸ HB.out)
  rw [hw2]
  clear hw2 HB
  refine (step_decl 0 bX 0 _ HB2.out.pair (by decide)).mono ?_
  rintro e w3 hp
  obtain ⟨rfl, pv3, rv3, hB3⟩ := bg_step HB2.out hp
  rw [decl_x] at hB3
  have c0 := cell_of_block hB3.pbk 0
  have c1 := cell_of_block hB3.pbk 1
  have HB3 := hide hB3
  clear hp hB3 HB2
  go_wp2_with fail
  clear c0 c1
  refine (step_decl 0 bY 0 _ HB3.out.pair (by decide)).mono ?_
  rintro e w4 hp
  obtain ⟨rfl, pv4, rv4, hB4⟩ := bg_step HB3.out hp
  rw [decl_y] at hB4
  have c0 := cell_of_block hB4.pbk 0
  have c1 := cell_of_block hB4.pbk 1
  have HB4 := hide hB4
  clear hp hB4 HB3
  go_wp2_with fail
  clear c0 c1
  refine (step_decl 0 bF 1 _ HB4.out.pair (by decide)).mono ?_
  rintro e w5 hp
  obtain ⟨rfl, pv5, rv5, hB5⟩ := bg_step HB4.out hp
  rw [decl_f] at hB5
  have c0 := cell_of_block hB5.pbk 0
  have c1 := cell_of_block hB5.pbk 1
  have HB5 := hide hB5
  clear hp hB5 HB4
  go_wp2_with fail
  clear c0 c1
  refine (p_tidy bEx w5 (by decide) HB5.out.pair.p.tab (HHD.out.ext HB5.out.ext (fun f => f)) (HTEN.out.ext HB5.out.ext (fun f => f))).mono ?_
  rintro e w6 ⟨X, rfl, hX, hx6⟩
  have hXb : X = ⟨#[40, 61, 32, 40, 102, 32, 120, 41, 32, 121, 41]⟩ := bytes_ext (hX.trans (by rw [tidy_ex]; rfl))
  subst hXb
  rw [tidy_ex]
  have k0 := (hx6.block _ (block_lt HB5.out.pbk) (fun f => f)).trans HB5.out.pbk
  have kr := (hx6.block _ (block_lt HB5.out.res) (fun f => f)).trans HB5.out.res
  have c0 := cell_of_block k0 0
  have c1 := cell_of_block k0 1
  have d0 := cell_of_block kr 0
  have d1 := cell_of_block kr 1
  have d0f := frozen_of_block kr 0
  have d1f := frozen_of_block kr 1
  have HX6 := hide hx6
  clear hX hx6 k0 kr
  go_wp2_with fail
  refine bodyPost_ret (v := .tuple #[.agg #[.pointer (some ⟨w0.heap.size, 0, none⟩), .pointer (some ⟨w1.heap.size, 0, none⟩)], .bool true]) (by simp [results, Tryz.results6, go_sem, d0, d1]) rfl ?_
  have hs5 := HB5.out.ext.size
  have hxr : Ext (fun k => k = w.heap.size) w5 ((w6.setCell ⟨w.heap.size, 0, none⟩ (.pointer (some ⟨w0.heap.size, 0, none⟩))).setCell ⟨w.heap.size, 1, none⟩ (.pointer (some ⟨w1.heap.size, 0, none⟩))) :=
    ((HX6.out.mono (T := fun k => k = w.heap.size) (fun _ _ f => f.elim)).setCell (p := ⟨w.heap.size, 0, none⟩) (fun _ => rfl) _).setCell (p := ⟨w.heap.size, 1, none⟩) (fun _ => rfl) _
  refine ⟨_, _, pv5, rv5, rfl, HB5.out.ext.trans' hxr (fun i hi e => by omega), HB5.out.pair.ext hxr (fun k hk e => by have := (HB5.out.foot k hk).1; omega), fun k hk => Nat.le_of_lt (HB5.out.foot k hk).1⟩

end Go.Proofs.YtihpglkehkgioaaGreatDoor

/- The law: what a script asks of the sessions that it is played on; two of them beside one another. -/
namespace Go.Proofs.YtihpglkehkgioaaGreatDoor
open Go.RowKit Ar

/-- What a step of a pair leaves: true; only blocks of its own have turned; what it owns now is its own or new. -/
def StepPost (G : Nat → Nat → World → (Nat → Prop) → Prop) (ps rs : Nat) (w : World) (F : Nat → Prop) (e : Ending) (w' : World) : Prop :=
  e = .returned (.bool true) ∧ Ext F w w' ∧ ∃ F', G ps rs w' F' ∧ ∀ k, F' k → F k ∨ w.heap.size ≤ k

/-- G: what holds of a pair (of its two blocks, in a world, with the blocks that it owns); it begins, it stays where its blocks do, it is kept by every step of a kind up to most. -/
structure Game (most : Int) (G : Nat → Nat → World → (Nat → Prop) → Prop) : Prop where
  ext : ∀ (ps rs : Nat) (w w' : World) (F S : Nat → Prop), G ps rs w F → Ext S w w' → (∀ k, F k → ¬ S k) → G ps rs w' F
  lt : ∀ (ps rs : Nat) (w : World) (F : Nat → Prop), G ps rs w F → ∀ k, F k → k < w.heap.size
  start : ∀ (w : World) (ps rs : Nat) (pv rv : Value), PairI w ps rs nms3 pv rv px0 (.slice none 0 0) 0 → G ps rs w (Foot ps rs pv rv)
  step : ∀ (w : World) (ps rs : Nat) (F : Nat → Prop) (k on : Int) (s : ByteArray) (a : Int) (bk : Value), G ps rs w F → HdLaid w → TenLaid w → k ≤ most → s.size ≤ maxLen →
    Calls Tryz.prog 8 #[.agg #[.pointer (some ⟨ps, 0, none⟩), .pointer (some ⟨rs, 0, none⟩)], .agg #[.int .i64 k, .int .i64 on, .string s, .int .i64 a], bk] w (StepPost G ps rs w F)

/-- The two pairs of a script, its list of them, its book. -/
structure Mid (W : World) (G : Nat → Nat → World → (Nat → Prop) → Prop) (lb bb p1 r1 p2 r2 : Nat) (w : World) : Prop where
  ext : Ext (fun _ => False) W w
  lst : w.heap[lb]? = some (.cells #[.pointer (some ⟨p1, 0, none⟩), .pointer (some ⟨r1, 0, none⟩), .pointer (some ⟨p2, 0, none⟩), .pointer (some ⟨r2, 0, none⟩)] 28)
  bok : w.heap[bb]? = some (.cells #[.slice none 0 0, .slice none 0 0, .int .i64 0] 36)
  two : ∃ F1 F2, G p1 r1 w F1 ∧ G p2 r2 w F2 ∧ (∀ k, F1 k → ¬ F2 k) ∧ (∀ k, F1 k → W.heap.size ≤ k ∧ ¬ k = lb ∧ ¬ k = bb) ∧ (∀ k, F2 k → W.heap.size ≤ k ∧ ¬ k = lb ∧ ¬ k = bb)

/-- A step on one of two pairs: the other stays. -/
theorem mid_next {most : Int} {G : Nat → Nat → World → (Nat → Prop) → Prop} (hG : Game most G) {W w w' : World} {lb bb p2 r2 : Nat} {F1 F2 F1' : Nat → Prop} {cl cb : Array Value} {tl tb : Nat}
    (hW : Ext (fun _ => False) W w) (hl : w.heap[lb]? = some (.cells cl tl)) (hb : w.heap[bb]? = some (.cells cb tb)) (g2 : G p2 r2 w F2) (hd : ∀ k, F1 k → ¬ F2 k)
    (h1 : ∀ k, F1 k → W.heap.size ≤ k ∧ ¬ k = lb ∧ ¬ k = bb) (hx : Ext F1 w w') (hF : ∀ k, F1' k → F1 k ∨ w.heap.size ≤ k) :
    Ext (fun _ => False) W w' ∧ w'.heap[lb]? = some (.cells cl tl) ∧ w'.heap[bb]? = some (.cells cb tb) ∧ G p2 r2 w' F2 ∧ (∀ k, F1' k → ¬ F2 k) ∧ (∀ k, F1' k → W.heap.size ≤ k ∧ ¬ k = lb ∧ ¬ k = bb) := by
  have s0 := hW.size
  have l1 := block_lt hl
  have l2 := block_lt hb
  refine ⟨hW.trans' hx (fun i hi f => by have := (h1 i f).1; omega), (hx.block lb l1 (fun f => (h1 lb f).2.1 rfl)).trans hl, (hx.block bb l2 (fun f => (h1 bb f).2.2 rfl)).trans hb, hG.ext p2 r2 w w' F2 F1 g2 hx (fun k h2 h => hd k h h2), ?_, ?_⟩
  · intro k hk h2
    rcases hF k hk with h | h
    · exact hd k h h2
    · have := hG.lt p2 r2 w F2 g2 k h2
      omega
  · intro k hk
    rcases hF k hk with h | h
    · exact h1 k h
    · exact ⟨by omega, by omega, by omega⟩

/-- The step on the first pair. -/
theorem mid_one {most : Int} {G : Nat → Nat → World → (Nat → Prop) → Prop} (hG : Game most G) {W w w' : World} {lb bb p1 r1 p2 r2 : Nat} {F1 F2 F1' : Nat → Prop} (hW : Ext (fun _ => False) W w)
    (hl : w.heap[lb]? = some (.cells #[.pointer (some ⟨p1, 0, none⟩), .pointer (some ⟨r1, 0, none⟩), .pointer (some ⟨p2, 0, none⟩), .pointer (some ⟨r2, 0, none⟩)] 28))
    (hb : w.heap[bb]? = some (.cells #[.slice none 0 0, .slice none 0 0, .int .i64 0] 36)) (g2 : G p2 r2 w F2) (hd : ∀ k, F1 k → ¬ F2 k)
    (h1 : ∀ k, F1 k → W.heap.size ≤ k ∧ ¬ k = lb ∧ ¬ k = bb) (h2 : ∀ k, F2 k → W.heap.size ≤ k ∧ ¬ k = lb ∧ ¬ k = bb) (hx : Ext F1 w w') (g1 : G p1 r1 w' F1') (hF : ∀ k, F1' k → F1 k ∨ w.heap.size ≤ k) : Mid W G lb bb p1 r1 p2 r2 w' := by
  obtain ⟨a, b, c, d, e, f⟩ := mid_next hG hW hl hb g2 hd h1 hx hF
  exact ⟨a, b, c, F1', F2, g1, d, e, f, h2⟩

/-- The step on the second pair. -/
theorem mid_two {most : Int} {G : Nat → Nat → World → (Nat → Prop) → Prop} (hG : Game most G) {W w w' : World} {lb bb p1 r1 p2 r2 : Nat} {F1 F2 F2' : Nat → Prop} (hW : Ext (fun _ => False) W w)
    (hl : w.heap[lb]? = some (.cells #[.pointer (some ⟨p1, 0, none⟩), .pointer (some ⟨r1, 0, none⟩), .pointer (some ⟨p2, 0, none⟩), .pointer (some ⟨r2, 0, none⟩)] 28))
    (hb : w.heap[bb]? = some (.cells #[.slice none 0 0, .slice none 0 0, .int .i64 0] 36)) (g1 : G p1 r1 w F1) (hd : ∀ k, F1 k → ¬ F2 k)
    (h1 : ∀ k, F1 k → W.heap.size ≤ k ∧ ¬ k = lb ∧ ¬ k = bb) (h2 : ∀ k, F2 k → W.heap.size ≤ k ∧ ¬ k = lb ∧ ¬ k = bb) (hx : Ext F2 w w') (g2 : G p2 r2 w' F2') (hF : ∀ k, F2' k → F2 k ∨ w.heap.size ≤ k) : Mid W G lb bb p1 r1 p2 r2 w' := by
  obtain ⟨a, b, c, d, e, f⟩ := mid_next hG hW hl hb g1 (fun k h h' => hd k h' h) h2 hx hF
  exact ⟨a, b, c, F1, F2', d, g2, fun k h h' => e k h' h, h1, f⟩

/-- A script as it lies in memory: four cells a step. -/
def Script (W : World) (sa : Option Addr) (n : Nat) : Prop :=
  ∀ i, i < n → ∃ (b off : Nat) (k on : Int) (s : ByteArray) (a : Int), sa = some ⟨b, off, none⟩ ∧ b < W.heap.size ∧ s.size ≤ maxLen ∧ -9223372036854775808 ≤ on ∧ on ≤ 9223372036854775807 ∧
    W.cell? ⟨b, off + i * 4, none⟩ = some (.int .i64 k) ∧ W.cell? ⟨b, off + i * 4 + 1, none⟩ = some (.int .i64 on) ∧ W.cell? ⟨b, off + i * 4 + 2, none⟩ = some (.string s) ∧ W.cell? ⟨b, off + i * 4 + 3, none⟩ = some (.int .i64 a)

/-- What holds of a pair while Declare and Tidy alone are called. -/
def ReadsG (ps rs : Nat) (w : World) (F : Nat → Prop) : Prop := ∃ N pv rv, 0 < N.length ∧ PairI w ps rs N pv rv px0 (.slice none 0 0) 0 ∧ F = Foot ps rs pv rv

theorem declNames_pos {N : List Nm} {F : Int} {s : ByteArray} {a : Int} (h : 0 < N.length) : 0 < (declNames N F s a).length := by
  unfold declNames
  split
  · simp
  · exact h

theorem StepPost.of_pair {w : World} {ps rs : Nat} {N' : List Nm} {pv rv : Value} {e : Ending} {w' : World} (h : PairPost w ps rs N' pv rv px0 (.slice none 0 0) 0 e w') (hN : 0 < N'.length) : StepPost ReadsG ps rs w (Foot ps rs pv rv) e w' := by
  obtain ⟨h1, h2, pv', rv', h3, h4⟩ := h
  exact ⟨h1, h2, Foot ps rs pv' rv', ⟨N', pv', rv', hN, h3, rfl⟩, h4⟩

theorem reads_game : Game 2 ReadsG where
  ext := by
    rintro ps rs w w' F S ⟨N, pv, rv, hN, hP, rfl⟩ hx hS
    exact ⟨N, pv, rv, hN, hP.ext hx hS, rfl⟩
  lt := by
    rintro ps rs w F ⟨N, pv, rv, hN, hP, rfl⟩
    exact hP.lt
  start := fun w ps rs pv rv h => ⟨nms3, pv, rv, by decide, h, rfl⟩
  step := by
    rintro w ps rs F k on s a bk ⟨N, pv, rv, hN, hP, rfl⟩ hhd hten hk hs
    by_cases h1 : k = 1
    · subst h1
      exact (step_decl on s a bk hP hs).mono fun e w' h => StepPost.of_pair h (declNames_pos hN)
    by_cases h2 : k = 2
    · subst h2
      exact (step_tidy on s a bk hP hs hN hhd hten).mono fun e w' h => StepPost.of_pair h hN
    · exact (step_none k on s a bk hP (by omega)).mono fun e w' h => StepPost.of_pair h hN

end Go.Proofs.YtihpglkehkgioaaGreatDoor
