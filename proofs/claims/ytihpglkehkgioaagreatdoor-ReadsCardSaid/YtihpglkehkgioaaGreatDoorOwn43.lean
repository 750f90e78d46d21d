/- A session of the program beside one of the document: a step of Declare, of Tidy; The law: a step; which session; the book that stays empty. -/
import Derived.Test.YtihpglkehkgioaaGreatDoorOwn42
import Derived.Test.YtihpglkehkgioaaGreatDoorOwn40
import Derived.Test.YtihpglkehkgioaaGreatDoorOwn01
/- A session of the program beside one of the document: a step of Declare, of Tidy. -/
namespace Go.Proofs.YtihpglkehkgioaaGreatDoor
open Go.RowKit Ar

/-- The blocks of a pair of sessions. -/
def Foot (ps rs : Nat) (pv rv : Value) (k : Nat) : Prop := k = ps ∨ k = rs ∨ pv.ownBlock = some k ∨ rv.ownBlock = some k

/-- A session of the program and one of the document with the same names, apart. -/
structure PairI (w : World) (ps rs : Nat) (N : List Nm) (pv rv : Value) (xs : PX) (lv : Value) (F : Int) : Prop where
  p : PS w ps N pv xs
  r : RefS w rs N rv lv F
  ab : ¬ ps = rs
  pr : ∀ g, pv.ownBlock = some g → ¬ g = rs
  rp : ∀ g, rv.ownBlock = some g → ¬ g = ps
  vv : ∀ g, pv.ownBlock = some g → ¬ rv.ownBlock = some g

theorem PairI.ext {S : Nat → Prop} {w w' : World} {ps rs : Nat} {N : List Nm} {pv rv : Value} {xs : PX} {lv : Value} {F : Int} (h : PairI w ps rs N pv rv xs lv F) (hx : Ext S w w') (hS : ∀ k, Foot ps rs pv rv k → ¬ S k) : PairI w' ps rs N pv rv xs lv F :=
  ⟨h.p.ext hx (hS _ (.inl rfl)) (fun _ hg => hS _ (.inr (.inr (.inl hg)))), h.r.ext hx (hS _ (.inr (.inl rfl))) (fun _ hg => hS _ (.inr (.inr (.inr hg)))), h.ab, h.pr, h.rp, h.vv⟩

theorem PairI.lt {w : World} {ps rs : Nat} {N : List Nm} {pv rv : Value} {xs : PX} {lv : Value} {F : Int} (h : PairI w ps rs N pv rv xs lv F) : ∀ k, Foot ps rs pv rv k → k < w.heap.size := by
  obtain ⟨ans, hb⟩ := h.r.blk
  rintro k (rfl | rfl | e | e)
  · exact block_lt h.p.blk
  · exact block_lt hb
  · exact (h.p.own.lt k e).2
  · exact (h.r.own.lt k e).2

/-- What a step leaves of a pair. -/
def PairPost (w : World) (ps rs : Nat) (N' : List Nm) (pv rv : Value) (xs : PX) (lv : Value) (F : Int) (e : Ending) (w' : World) : Prop :=
  e = .returned (.bool true) ∧ Ext (Foot ps rs pv rv) w w' ∧ ∃ pv' rv', PairI w' ps rs N' pv' rv' xs lv F ∧ (∀ k, Foot ps rs pv' rv' k → Foot ps rs pv rv k ∨ w.heap.size ≤ k)

theorem pair_done {w W w1 w2 : World} {ps rs : Nat} {N N' : List Nm} {pv rv pv' rv' : Value} {xs : PX} {lv : Value} {F : Int} (hI : PairI W ps rs N pv rv xs lv F) (hxW : Ext (fun _ => False) w W) (hlt : ∀ k, Foot ps rs pv rv k → k < w.heap.size)
    (hx1 : Ext (fun k => k = ps ∨ pv.ownBlock = some k) W w1) (hp1 : PS w1 ps N' pv' xs) (hpv : ∀ k, pv'.ownBlock = some k → pv.ownBlock = some k ∨ W.heap.size ≤ k)
    (hx2 : Ext (fun k => k = rs ∨ rv.ownBlock = some k) w1 w2) (hr2 : RefS w2 rs N' rv' lv F) (hrv : ∀ k, rv'.ownBlock = some k → rv.ownBlock = some k ∨ w1.heap.size ≤ k) :
    PairPost w ps rs N' pv rv xs lv F (.returned (.bool true)) w2 := by
  have s0 := hxW.size
  have s1 := hx1.size
  have lps := hlt ps (.inl rfl)
  have lrs := hlt rs (.inr (.inl rfl))
  have lrv : ∀ g, rv.ownBlock = some g → g < w.heap.size := fun g hg => hlt g (.inr (.inr (.inr hg)))
  refine ⟨rfl, ?_, pv', rv', ⟨?_, hr2, hI.ab, ?_, ?_, ?_⟩, ?_⟩
  · exact ((hxW.mono (fun _ _ f => f.elim)).trans' hx1 (fun i _ h => h.elim .inl (fun e => .inr (.inr (.inl e))))).trans' hx2 (fun i _ h => h.elim (fun e => .inr (.inl e)) (fun e => .inr (.inr (.inr e))))
  · refine hp1.ext hx2 ?_ ?_
    · rintro (e | e)
      · exact hI.ab e
      · exact hI.rp ps e rfl
    · rintro g hg (e | e)
      · rcases hpv g hg with h | h
        · exact hI.pr g h e
        · omega
      · rcases hpv g hg with h | h
        · exact hI.vv g h e
        · have := lrv g e; omega
  · intro g hg e
    rcases hpv g hg with h | h
    · exact hI.pr g h e
    · omega
  · intro g hg e
    rcases hrv g hg with h | h
    · exact hI.rp g h e
    · omega
  · intro g hg hq
    have h1 := (hp1.own.lt g hg).2
    rcases hrv g hq with h | h
    · rcases hpv g hg with h' | h'
      · exact hI.vv g h' h
      · have := lrv g h; omega
    · omega
  · rintro k (e | e | e | e)
    · exact .inl (.inl e)
    · exact .inl (.inr (.inl e))
    · exact (hpv k e).imp (fun h => .inr (.inr (.inl h))) (fun h => by omega)
    · exact (hrv k e).imp (fun h => .inr (.inr (.inr h))) (fun h => by omega)

set_option maxRecDepth 100000 in
set_option maxHeartbeats 400000 in
theorem reads_decl {w : World} {ps rs : Nat} {N : List Nm} {pv rv : Value} {xs : PX} {lv : Value} {F : Int} (on : Int) (s : ByteArray) (a : Int) (h : PairI w ps rs N pv rv xs lv F) (hs : s.size ≤ maxLen) :
    Calls Tryz.prog 12 #[.agg #[.pointer (some ⟨ps, 0, none⟩), .pointer (some ⟨rs, 0, none⟩)], .agg #[.int .i64 1, .int .i64 on, .string s, .int .i64 a]] w (PairPost w ps rs (declNames N F s a) pv rv xs lv F) := by
  have H := hide h
  clear h
  go_enter Tryz.func12, Tryz.ntmps12
  go_wp2_with fail
  obtain ⟨W, hW⟩ : ∃ W, (w.alloc (.cells #[.pointer (some ⟨ps, 0, none⟩), .pointer (some ⟨rs, 0, none⟩)] 28)).alloc (.cells #[.int .i64 1, .int .i64 on, .string s, .int .i64 a] 38) = W := ⟨_, rfl⟩
  have hxW : Ext (fun _ => False) w W := by rw [← hW]; exact ((Ext.refl _ w).alloc _).alloc _
  have hWs : W.heap.size = w.heap.size + 2 := by rw [← hW]; simp
  have kA : W.heap[w.heap.size]? = some (.cells #[.pointer (some ⟨ps, 0, none⟩), .pointer (some ⟨rs, 0, none⟩)] 28) := by rw [← hW, heap_alloc_old _ _ (by simp)]; exact heap_alloc_new w _
  have kB : W.heap[w.heap.size + 1]? = some (.cells #[.int .i64 1, .int .i64 on, .string s, .int .i64 a] 38) := by rw [← hW]; exact heap_alloc2_new w _ _
  rw [hW]
  clear hW
  have hI := H.out.ext hxW (fun _ _ f => f)
  have HI := hide hI
  have HXW := hide hxW
  have HLT := hide H.out.lt
  refine (p_declare F s a hI.p hs).mono ?_
  clear hI hxW
  rintro e w1 ⟨rfl, hx1, pv', hp1, hpv⟩
  have hlp : ∀ k, (k = ps ∨ pv.ownBlock = some k) → k < w.heap.size := fun k hk => HLT.out k (hk.elim .inl (fun e => .inr (.inr (.inl e))))
  have hlr : ∀ k, (k = rs ∨ rv.ownBlock = some k) → k < w.heap.size := fun k hk => HLT.out k (hk.elim (fun e => .inr (.inl e)) (fun e => .inr (.inr (.inr e))))
  have kA1 := (hx1.block _ (block_lt kA) (fun h => by have := hlp _ h; omega)).trans kA
  have kB1 := (hx1.block _ (block_lt kB) (fun h => by have := hlp _ h; omega)).trans kB
  have a1 := cell_of_block kA1 1
  have b2 := cell_of_block kB1 2
  have b3 := cell_of_block kB1 3
  have hr1 : RefS w1 rs N rv lv F := by
    refine HI.out.r.ext hx1 ?_ ?_
    · rintro (e | e)
      · exact HI.out.ab e.symm
      · exact HI.out.pr rs e rfl
    · rintro g hg (e | e)
      · exact HI.out.rp g hg e
      · exact HI.out.vv g e hg
  have HR1 := hide hr1
  have HX1 := hide hx1
  have HP1 := hide hp1
  have HPV := hide hpv
  have HLP := hide hlp
  have HLR := hide hlr
  clear hx1 hp1 hpv hr1 kA kB kA1 kB1 hlp hlr
  go_wp2_with fail
  refine (ref_declare s a HR1.out hs).mono ?_
  rintro e w2 ⟨rfl, hx2, rv', hr2, hrv⟩
  have HX2 := hide hx2
  have HR2 := hide hr2
  have HRV := hide hrv
  clear hx2 hr2 hrv a1 b2 b3
  go_wp2_with (go_at_call 22; refine (num_any _ _).mono ?_; rintro e w' ⟨rfl, rfl⟩)
  go_ret
  exact pair_done HI.out HXW.out HLT.out HX1.out HP1.out HPV.out HX2.out HR2.out HRV.out

set_option maxRecDepth 100000 in
set_option maxHeartbeats 400000 in
theorem reads_tidy {w : World} {ps rs : Nat} {N : List Nm} {pv rv : Value} {xs : PX} {lv : Value} {F : Int} (on : Int) (s : ByteArray) (a : Int) (h : PairI w ps rs N pv rv xs lv F) (hs : s.size ≤ maxLen) (hne : 0 < N.length) (hhd : HdLaid w) (hten : TenLaid w) :
    Calls Tryz.prog 12 #[.agg #[.pointer (some ⟨ps, 0, none⟩), .pointer (some ⟨rs, 0, none⟩)], .agg #[.int .i64 2, .int .i64 on, .string s, .int .i64 a]] w (PairPost w ps rs N pv rv xs lv F) := by
  have H := hide h
  have HHD := hide hhd
  have HTEN := hide hten
  clear h hhd hten
  go_enter Tryz.func12, Tryz.ntmps12
  go_wp2_with fail
  obtain ⟨W, hW⟩ : ∃ W, (w.alloc (.cells #[.pointer (some ⟨ps, 0, none⟩), .pointer (some ⟨rs, 0, none⟩)] 28)).alloc (.cells #[.int .i64 2, .int .i64 on, .string s, .int .i64 a] 38) = W := ⟨_, rfl⟩
  have hxW : Ext (fun _ => False) w W := by rw [← hW]; exact ((Ext.refl _ w).alloc _).alloc _
  have kA : W.heap[w.heap.size]? = some (.cells #[.pointer (some ⟨ps, 0, none⟩), .pointer (some ⟨rs, 0, none⟩)] 28) := by rw [← hW, heap_alloc_old _ _ (by simp)]; exact heap_alloc_new w _
  have kB : W.heap[w.heap.size + 1]? = some (.cells #[.int .i64 2, .int .i64 on, .string s, .int .i64 a] 38) := by rw [← hW]; exact heap_alloc2_new w _ _
  rw [hW]
  clear hW
  have hI := H.out.ext hxW (fun _ _ f => f)
  have HI := hide hI
  have HXW := hide hxW
  refine (p_tidy s W hs hI.p.tab (HHD.out.ext hxW (fun f => f)) (HTEN.out.ext hxW (fun f => f))).mono ?_
  clear hI hxW
  rintro e w1 ⟨X, rfl, hX, hx1⟩
  have kA1 := (hx1.block _ (block_lt kA) (fun f => f)).trans kA
  have kB1 := (hx1.block _ (block_lt kB) (fun f => f)).trans kB
  have a1 := cell_of_block kA1 1
  have b2 := cell_of_block kB1 2
  have HX1 := hide hx1
  have HX := hide hX
  clear hx1 hX kA kB kA1 kB1
  go_wp2_with fail
  refine (ref_tidy s (HI.out.ext HX1.out (fun _ _ f => f)).r hne hs).mono ?_
  rintro e w2 ⟨Y, rfl, hY, hx2⟩
  have hXY : Y = X := bytes_ext (hY.trans HX.out.symm)
  subst hXY
  have HX2 := hide hx2
  clear hx2 hY a1 b2
  go_wp2_with (go_at_call 22; refine (num_any _ _).mono ?_; rintro e w' ⟨rfl, rfl⟩)
  go_ret
  have hx := (HXW.out.trans HX1.out).trans HX2.out
  exact ⟨rfl, hx.mono (fun _ _ f => f.elim), pv, rv, H.out.ext hx (fun _ _ f => f), fun k hk => .inl hk⟩

end Go.Proofs.YtihpglkehkgioaaGreatDoor

/- The law: a step; which session; the book that stays empty. -/
namespace Go.Proofs.YtihpglkehkgioaaGreatDoor
open Go.RowKit Ar

theorem PairPost.of_new {w W : World} {ps rs : Nat} {N' : List Nm} {pv rv : Value} {xs : PX} {lv : Value} {F : Int} {e : Ending} {w' : World} (hx : Ext (fun _ => False) w W) (h : PairPost W ps rs N' pv rv xs lv F e w') : PairPost w ps rs N' pv rv xs lv F e w' := by
  obtain ⟨he, h1, pv', rv', h2, h3⟩ := h
  exact ⟨he, (hx.mono (fun _ _ f => f.elim)).trans h1, pv', rv', h2, fun k hk => (h3 k hk).imp id (fun e => Nat.le_trans hx.size e)⟩

set_option maxRecDepth 100000 in
set_option maxHeartbeats 400000 in
theorem step_decl {w : World} {ps rs : Nat} {N : List Nm} {pv rv : Value} {xs : PX} {lv : Value} {F : Int} (on : Int) (s : ByteArray) (a : Int) (bk : Value) (h : PairI w ps rs N pv rv xs lv F) (hs : s.size ≤ maxLen) :
    Calls Tryz.prog 8 #[.agg #[.pointer (some ⟨ps, 0, none⟩), .pointer (some ⟨rs, 0, none⟩)], .agg #[.int .i64 1, .int .i64 on, .string s, .int .i64 a], bk] w (PairPost w ps rs (declNames N F s a) pv rv xs lv F) := by
  have H := hide h
  clear h
  go_enter Tryz.func8, Tryz.ntmps8
  go_wp2_with fail
  obtain ⟨W, hW⟩ : ∃ W, (w.alloc (.cells #[.pointer (some ⟨ps, 0, none⟩), .pointer (some ⟨rs, 0, none⟩)] 28)).alloc (.cells #[.int .i64 1, .int .i64 on, .string s, .int .i64 a] 38) = W := ⟨_, rfl⟩
  have hxW : Ext (fun _ => False) w W := by rw [← hW]; exact ((Ext.refl _ w).alloc _).alloc _
  rw [hW]
  clear hW
  refine (reads_decl on s a (H.out.ext hxW (fun _ _ f => f)) hs).mono ?_
  rintro e w1 hp
  have hp1 := hp.of_new hxW
  obtain ⟨rfl, hp2⟩ := hp1
  have HP2 := hide hp2
  clear hp hp2 hxW
  go_wp2_with fail
  go_ret
  exact ⟨rfl, HP2.out⟩

set_option maxRecDepth 100000 in
set_option maxHeartbeats 400000 in
theorem step_tidy {w : World} {ps rs : Nat} {N : List Nm} {pv rv : Value} {xs : PX} {lv : Value} {F : Int} (on : Int) (s : ByteArray) (a : Int) (bk : Value) (h : PairI w ps rs N pv rv xs lv F) (hs : s.size ≤ maxLen) (hne : 0 < N.length) (hhd : HdLaid w) (hten : TenLaid w) :
    Calls Tryz.prog 8 #[.agg #[.pointer (some ⟨ps, 0, none⟩), .pointer (some ⟨rs, 0, none⟩)], .agg #[.int .i64 2, .int .i64 on, .string s, .int .i64 a], bk] w (PairPost w ps rs (N) pv rv xs lv F) := by
  have H := hide h
  clear h
  have HHD := hide hhd
  have HTEN := hide hten
  clear hhd hten
  go_enter Tryz.func8, Tryz.ntmps8
  go_wp2_with fail
  obtain ⟨W, hW⟩ : ∃ W, (w.alloc (.cells #[.pointer (some ⟨ps, 0, none⟩), .pointer (some ⟨rs, 0, none⟩)] 28)).alloc (.cells #[.int .i64 2, .int .i64 on, .string s, .int .i64 a] 38) = W := ⟨_, rfl⟩
  have hxW : Ext (fun _ => False) w W := by rw [← hW]; exact ((Ext.refl _ w).alloc _).alloc _
  rw [hW]
  clear hW
  refine (reads_tidy on s a (H.out.ext hxW (fun _ _ f => f)) hs hne (HHD.out.ext hxW (fun f => f)) (HTEN.out.ext hxW (fun f => f))).mono ?_
  rintro e w1 hp
  have hp1 := hp.of_new hxW
  obtain ⟨rfl, hp2⟩ := hp1
  have HP2 := hide hp2
  clear hp hp2 hxW
  go_wp2_with fail
  go_ret
  exact ⟨rfl, HP2.out⟩

set_option maxRecDepth 100000 in
set_option maxHeartbeats 400000 in
theorem step_none {w : World} {ps rs : Nat} {N : List Nm} {pv rv : Value} {xs : PX} {lv : Value} {F : Int} (k on : Int) (s : ByteArray) (a : Int) (bk : Value) (h : PairI w ps rs N pv rv xs lv F) (hk : k ≤ 0) :
    Calls Tryz.prog 8 #[.agg #[.pointer (some ⟨ps, 0, none⟩), .pointer (some ⟨rs, 0, none⟩)], .agg #[.int .i64 k, .int .i64 on, .string s, .int .i64 a], bk] w (PairPost w ps rs N pv rv xs lv F) := by
  have H := hide h
  have e1 : (k == 1) = false := by simp; omega
  have e2 : (k == 2) = false := by simp; omega
  have e3 : (k == 3) = false := by simp; omega
  have e4 : (k == 4) = false := by simp; omega
  have e5 : (k == 5) = false := by simp; omega
  have e6 : (k == 6) = false := by simp; omega
  have e7 : (k == 7) = false := by simp; omega
  have e8 : (k == 8) = false := by simp; omega
  have e9 : (k == 9) = false := by simp; omega
  have HX : Hid (Ext (fun _ => False) w ((w.alloc (.cells #[.pointer (some ⟨ps, 0, none⟩), .pointer (some ⟨rs, 0, none⟩)] 28)).alloc (.cells #[.int .i64 k, .int .i64 on, .string s, .int .i64 a] 38))) := ((Ext.refl _ w).alloc _).alloc _
  clear h hk
  go_enter Tryz.func8, Tryz.ntmps8
  go_wp2_with fail
  go_ret
  exact ⟨rfl, HX.out.mono (fun _ _ f => f.elim), pv, rv, H.out.ext HX.out (fun _ _ f => f), fun k hk => .inl hk⟩

set_option maxHeartbeats 400000 in
theorem looks_none {w : World} (bk : Nat) (m : Value) (n : Value) (hb : w.heap[bk]? = some (.cells #[.slice none 0 0, m, n] 36)) :
    Calls Tryz.prog 9 #[.pointer (some ⟨bk, 0, none⟩)] w fun e w' => e = .returned (.bool true) ∧ w' = w := by
  have c0 := cell_of_block hb 0
  clear hb
  go_enter Tryz.func9, Tryz.ntmps9
  go_wp2_with fail
  go_loop [3] (fun i => i = .int .i64 0) (fun _ => 0)
  case atStart => rfl
  case round =>
    subst hrel
    go_wp2_with fail
    go_ret
    exact ⟨rfl, rfl⟩

/-- Which of two things a raw number speaks of. -/
def pickOf (c : Int) : Nat := if c < 0 then ((-(c + 1)) % 2).toNat else (c % 2).toNat

theorem pickOf_two (c : Int) : pickOf c = 0 ∨ pickOf c = 1 := by
  unfold pickOf
  split <;> omega

set_option maxHeartbeats 400000 in
theorem pick_two (c : Int) (w : World) (hc : -9223372036854775808 ≤ c) (hc2 : c ≤ 9223372036854775807) :
    Calls Tryz.prog 7 #[.int .i64 c, .int .i64 2] w fun e w' => e = .returned (.int .i64 (pickOf c : Nat)) ∧ w' = w := by
  by_cases h : c < 0
  · go_enter Tryz.func7, Tryz.ntmps7
    go_wp2_with fail
    go_ret
    have e : -(c + 1).tmod 2 = (-(c + 1)) % 2 := by rw [← Int.neg_tmod, Int.tmod_eq_emod_of_nonneg (by omega)]
    refine ⟨?_, rfl⟩
    show Ending.returned (.int .i64 (-(c + 1).tmod 2)) = _
    rw [e, pickOf, if_pos h, Int.toNat_of_nonneg (by omega)]
  · go_enter Tryz.func7, Tryz.ntmps7
    go_wp2_with fail
    go_ret
    refine ⟨?_, rfl⟩
    show Ending.returned (.int .i64 (c % 2)) = _
    rw [pickOf, if_neg (by omega), Int.toNat_of_nonneg (by omega)]

end Go.Proofs.YtihpglkehkgioaaGreatDoor
