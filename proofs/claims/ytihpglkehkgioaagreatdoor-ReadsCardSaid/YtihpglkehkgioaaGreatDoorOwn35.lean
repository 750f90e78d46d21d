/- The program's Tidy; The program's names: Declare; A session of the program beside one of the document: a step of Declare, of Tidy. -/
import Derived.Test.YtihpglkehkgioaaGreatDoorOwn32
import Derived.Test.YtihpglkehkgioaaGreatDoorOwn33
import Derived.Test.YtihpglkehkgioaaGreatDoorOwn34
import Derived.Deep.AppendLies
import Derived.Test.YtihpglkehkgioaaGreatDoorOwn04
/- The program's Tidy. -/
namespace Go.Proofs.YtihpglkehkgioaaGreatDoor
open Go.RowKit Ar

theorem whole_no {N : List Nm} {l : List UInt8} {e : Int} {p : Nat} (h : rdWhole N l = .no e p) : e ≠ 0 := by
  have hg := form_gd N (toks l).length 0 (toks l) (go_wf l 0 []) (Nat.le_refl _)
  unfold rdWhole at h
  split at h
  · rename_i e1 p1 hr
    simp at h
    obtain ⟨rfl, rfl⟩ := h
    exact hg.1 _ _ hr
  · rename_i nd hr
    exact absurd (hg.2 _ _ hr).1 (by simp [TW])
  · split at h
    · simp at h
    · simp at h
      obtain ⟨rfl, rfl⟩ := h
      decide

theorem whole_ok {N : List Nm} {s : ByteArray} {nd : Nd} {ts : List Tk} (hs : s.size ≤ 600) (h : rdWhole N s.toList = .ok nd ts) : NOk nd ∧ (formOf nd).length ≤ 1000000 := by
  unfold rdWhole at h
  split at h
  · simp at h
  · simp at h
  · rename_i nd' t us hr
    split at h
    · simp at h
      obtain ⟨rfl, _⟩ := h
      have h1 := form_fits N _ _ _ _ _ (go_short s.toList 600 0 [] (by rw [len_toList]; simp; omega) (by omega)) hr
      have h2 := toks_len s.toList
      rw [len_toList] at h2
      have h3 := h1.1
      refine ⟨form_oks N _ _ _ _ _ hr, ?_⟩
      have h4 : (tkGo 0 [] s.toList).length = (toks s.toList).length := rfl
      omega
    · simp at h

set_option maxRecDepth 100000 in
set_option maxHeartbeats 400000 in
theorem p_tidy {sb : Nat} {nv : Value} {N : List Nm} (s : ByteArray) (w : World) (hm : s.size ≤ maxLen) (hN : PTab w sb nv N) (hhd : HdLaid w) (ht : TenLaid w) :
    Calls Tryz.prog 11 #[.pointer (some ⟨sb, 0, none⟩), .string s] w fun e w' => ∃ X : ByteArray, e = .returned (.tuple #[.string X, .int .i64 (tidyOut N s).2.1, .int .i64 (tidyOut N s).2.2]) ∧ X.toList = (tidyOut N s).1 ∧ Ext (fun _ => False) w w' := by
  have c0 := hN.tbl
  by_cases hs : 600 < s.size
  · have HC := hide (p_Formula_long (.pointer (some ⟨sb, 0, none⟩)) s w hs hm)
    have HRES : Hid (tidyOut N s = ([], 0, 1)) := by show _ = _; unfold tidyOut; rw [if_pos hs]
    clear hN hhd ht hs hm
    go_enter Tryz.func11, Tryz.ntmps11
    go_wp2_with fail
    refine HC.out.mono ?_
    rintro e w1 ⟨rfl, hx1⟩
    have HX1 := hide hx1
    clear hx1
    go_wp2_with fail
    go_ret3
    rw [HRES.out]
    exact ⟨_, rfl, empty_toList, HX1.out.alloc _⟩
  · have hs' : s.size ≤ 600 := by omega
    have HC := hide (p_Formula s w hs' hN hhd)
    have HT := hide ht
    cases hr : rdWhole N s.toList with
    | no e p =>
      have HRES : Hid (tidyOut N s = ([], (p : Int), e)) := by show _ = _; unfold tidyOut; rw [if_neg hs, hr]
      have he0 : (e != 0) = true := by simpa using whole_no hr
      have HR := hide hr
      clear hN hhd ht hs hm hr hs'
      go_enter Tryz.func11, Tryz.ntmps11
      go_wp2_with fail
      refine HC.out.mono ?_
      rintro en w1 ⟨hx1, hp⟩
      rw [HR.out] at hp
      have hp' : en = _ := hp
      subst hp'
      have HX1 := hide hx1
      clear hx1 hp
      go_wp2_with fail
      go_ret3
      rw [HRES.out]
      exact ⟨_, rfl, empty_toList, HX1.out.alloc _⟩
    | ok nd ts' =>
      have HRES : Hid (tidyOut N s = (formOf nd, 0, 0)) := by show _ = _; unfold tidyOut; rw [if_neg hs, hr]
      have HOK := hide (whole_ok hs' hr)
      have HR := hide hr
      clear hN hhd ht hs hm hr hs'
      go_enter Tryz.func11, Tryz.ntmps11
      go_wp2_with fail
      refine HC.out.mono ?_
      rintro en w1 ⟨hx1, hp⟩
      rw [HR.out] at hp
      obtain ⟨k, wd, v, sa, sn, sc, rfl, hpn⟩ := hp
      have HX1 : Hid (Ext (fun _ => False) w (w1.alloc (.cells #[.int .i64 k, .string wd, .int .i64 v, .slice sa sn sc] 72))) := hx1.alloc _
      have HPN := hide ((hpn.ext ((Ext.refl (fun _ => False) w1).alloc (.cells #[.int .i64 k, .string wd, .int .i64 v, .slice sa sn sc] 72)) (fun _ _ _ f => f)).mono (D' := fun _ => True) (fun _ _ _ => trivial))
      clear hx1 hpn
      go_wp2_with fail
      refine (one_any k v wd sa sn sc nd HOK.out.1 HPN.out (HT.out.ext HX1.out (fun f => f)) HOK.out.2).mono ?_
      rintro e w2 ⟨rfl, hx2⟩
      have HX2 : Hid (Ext (fun _ => False) w w2) := HX1.out.trans hx2
      clear hx2
      go_wp2_with fail
      go_ret3
      rw [HRES.out]
      exact ⟨_, rfl, mk_toList _, HX2.out⟩

end Go.Proofs.YtihpglkehkgioaaGreatDoor

/- The program's names: Declare. -/
namespace Go.Proofs.YtihpglkehkgioaaGreatDoor
open Go.RowKit Ar

/-- What else a session of the program keeps. -/
structure PX where
  ts : Value
  tm : Value
  at_ : Value
  am : Value
  fs : Value
  ks : Value

/-- A session of the program: its block, its names. -/
structure PS (w : World) (sb : Nat) (N : List Nm) (nv : Value) (xs : PX) : Prop where
  blk : w.heap[sb]? = some (.cells #[nv, xs.ts, xs.tm, xs.at_, xs.am, xs.fs, xs.ks] 68)
  own : w.ownsRow 0 155 2 nv N.length (fnCells N)
  sep : ∀ g, nv.ownBlock = some g → ¬ g = sb
  few : N.length ≤ 20
  ok : ∀ x ∈ N, 0 ≤ x.ar ∧ x.ar ≤ 3

theorem PS.ext {S : Nat → Prop} {w w' : World} {sb : Nat} {N : List Nm} {nv : Value} {xs : PX} (h : PS w sb N nv xs) (hx : Ext S w w') (h1 : ¬ S sb) (h2 : ∀ g, nv.ownBlock = some g → ¬ S g) : PS w' sb N nv xs :=
  ⟨(hx.block _ (block_lt h.blk) h1).trans h.blk, own_ext h.own hx h2, h.sep, h.few, h.ok⟩

theorem PS.tab {w : World} {sb : Nat} {N : List Nm} {nv : Value} {xs : PX} (h : PS w sb N nv xs) : PTab w sb nv N :=
  ⟨h.few, h.ok, cell_of_block h.blk 0, block_lt h.blk, h.own⟩

def PDecl (w : World) (sb : Nat) (N : List Nm) (nv : Value) (xs : PX) (F : Int) (s : ByteArray) (a : Int) (e : Ending) (w' : World) : Prop :=
  e = .returned (.int .i64 (declCode N s.toList a)) ∧ Ext (fun k => k = sb ∨ nv.ownBlock = some k) w w' ∧ ∃ nv', PS w' sb (declNames N F s a) nv' xs ∧ (∀ k, nv'.ownBlock = some k → nv.ownBlock = some k ∨ w.heap.size ≤ k)

theorem pdecl_same {w w' : World} {sb : Nat} {N : List Nm} {nv : Value} {xs : PX} {F : Int} {s : ByteArray} {a c : Int} (h : PS w sb N nv xs) (hx : Ext (fun _ => False) w w') (hc : declCode N s.toList a = c) (h0 : ¬ c = 0) : PDecl w sb N nv xs F s a (.returned (.int .i64 c)) w' := by
  refine ⟨by rw [hc], hx.mono (fun _ _ f => f.elim), nv, ?_, fun k hk => Or.inl hk⟩
  rw [declNames, if_neg (by rw [hc]; exact h0)]
  exact h.ext hx (fun f => f) (fun _ _ f => f)

theorem pdecl_new {w w0 w1 W : World} {sb g cap' : Nat} {N : List Nm} {nv : Value} {xs : PX} {F : Int} {s : ByteArray} {a : Int} (h : PS w sb N nv xs) (hc : declCode N s.toList a = 0) (ha0 : 0 ≤ a) (ha3 : a ≤ 3) (hfew : N.length < 20)
    (h0 : Ext (fun _ => False) w w0) (hgrow : w0.grownBy w1 nv.ownBlock) (hown1 : w1.ownsRow 0 155 2 (.slice (some ⟨g, 0, none⟩) (N.length + 1) cap') (N.length + 1) (fnCells N ++ [.string s, .int .i64 a]))
    (hat : nv.ownBlock = some g ∨ w.heap.size ≤ g) (hW : Ext (· = sb) w1 W) (kW : W.heap[sb]? = some (.cells #[.slice (some ⟨g, 0, none⟩) (N.length + 1) cap', xs.ts, xs.tm, xs.at_, xs.am, xs.fs, xs.ks] 68)) :
    PDecl w sb N nv xs F s a (.returned (.int .i64 0)) W := by
  have hsb := block_lt h.blk
  have hgs : ¬ g = sb := by
    rcases hat with e | e
    · exact h.sep g e
    · omega
  have h1 : Ext (fun k => nv.ownBlock = some k) w w1 := (h0.mono (fun _ _ f => f.elim)).grown hgrow (fun k hk _ => hk)
  refine ⟨by rw [hc], ?_, .slice (some ⟨g, 0, none⟩) (N.length + 1) cap', ?_, ?_⟩
  · exact (h1.mono (fun k _ hk => Or.inr hk)).trans' hW (fun i _ e => Or.inl e)
  · rw [declNames, if_pos hc]
    refine ⟨kW, ?_, ?_, ?_, ?_⟩
    · rw [fnCells_snoc, List.length_append]
      exact own_ext hown1 hW (fun k hk e => by simp [Value.ownBlock] at hk; omega)
    · intro k hk
      simp [Value.ownBlock] at hk
      omega
    · simp; omega
    · intro x hx
      rcases List.mem_append.1 hx with hx | hx
      · exact h.ok x hx
      · simp at hx; subst hx; exact ⟨ha0, ha3⟩
  · intro k hk
    simp [Value.ownBlock] at hk
    subst hk
    exact hat

set_option maxHeartbeats 400000 in
theorem clone_any (s : ByteArray) (w : World) (hs : s.size ≤ 8) :
    Calls Tryz.prog 68 #[.string s] w fun e w' => e = .returned (.string s) ∧ Ext (fun _ => False) w w' := by
  have hc := Tryz.stringslite_Clone s w (by omega)
  have HC := hide hc
  clear hc
  go_enter Tryz.func68, Tryz.ntmps68
  go_wp2_with fail
  refine HC.out.mono ?_
  rintro e w1 ⟨rfl, hb⟩
  have HX := hide ((Ext.refl (fun _ => False) w).below hb)
  clear hb
  go_wp2_with fail
  go_ret
  exact ⟨rfl, HX.out⟩

theorem info131 : (Tryz.prog.info? 155).map (fun i => (i.zero, i.size, i.bytes)) = some (some (.agg #[.string ByteArray.empty, .int .i64 0]), 2, 24) := by kernel_rfl

set_option maxRecDepth 100000 in
set_option maxHeartbeats 400000 in
theorem pt_declare {w : World} {sb : Nat} {N : List Nm} {nv : Value} {xs : PX} (F : Int) (s : ByteArray) (a : Int) (h : PS w sb N nv xs) (hs : s.size ≤ maxLen) :
    Calls Tryz.prog 42 #[.pointer (some ⟨sb, 0, none⟩), .string s, .int .i64 a] w (PDecl w sb N nv xs F s a) := by
  have c0 := cell_of_block h.blk 0
  have f0 := frozen_of_block h.blk 0
  have hfew := h.few
  have hsb := block_lt h.blk
  have H := hide h
  have HIS := gIs s
  have HIS' := hide HIS
  have HWI := hide (gWithinInt a 0 3)
  obtain ⟨ar, cap, hnv, _⟩ := own_shape2 h.own
  subst hnv
  clear h HIS
  have HX0 : Hid (Ext (fun _ => False) w (w.alloc (.cells #[.string ⟨#[]⟩, .int .i64 0] 155))) := (Ext.refl _ w).alloc _
  cases hn : isName s.toList with
  | false =>
    have HC : Hid (declCode N s.toList a = 3) := by show _ = _; rw [declCode, if_pos hn]
    go_enter Tryz.func42, Tryz.ntmps42
    go_wp2_with (go_at_call 65; refine (HIS'.out _ hs).mono ?_; rintro e w' ⟨rfl, rfl⟩)
    go_ret
    exact pdecl_same H.out (Ext.refl _ _) HC.out (by decide)
  | true =>
    by_cases hr : a < 0 ∨ 3 < a
    · have HC : Hid (declCode N s.toList a = 4) := by show _ = _; rw [declCode, if_neg (by rw [hn]; decide), if_pos hr]
      have hd : decide (0 ≤ a ∧ a ≤ 3) = false := decide_eq_false (by omega)
      go_enter Tryz.func42, Tryz.ntmps42
      go_wp2_with first
        | (go_at_call 65; refine (HIS'.out _ hs).mono ?_; rintro e w' ⟨rfl, rfl⟩)
        | (go_at_call 66; refine (HWI.out _).mono ?_; rintro en w' ⟨rfl, rfl⟩)
      go_ret
      exact pdecl_same H.out (Ext.refl _ _) HC.out (by decide)
    · have HC0 : Hid (declCode N s.toList a = if (arOf N s.toList).isSome = true then 7 else if 20 ≤ N.length then 8 else 0) := by
        show _ = _
        rw [declCode, if_neg (by rw [hn]; decide), if_neg hr]
      have hd : decide (0 ≤ a ∧ a ≤ 3) = true := decide_eq_true (by omega)
      have HNM := hide hn
      have HF := hide (p_find s H.out.tab.tbl H.out.own hfew hsb)
      cases ha : arOf N s.toList with
      | some b =>
        have HC : Hid (declCode N s.toList a = 7) := by show _ = _; rw [HC0.out, if_pos (by rw [ha]; rfl)]
        have HFR : Hid (findRes N s = .tuple #[.agg #[.string s, .int .i64 b], .bool true]) := by show _ = _; unfold findRes; rw [ha]
        clear ha
        go_enter Tryz.func42, Tryz.ntmps42
        go_wp2_with first
          | (go_at_call 65; refine (HIS'.out _ hs).mono ?_; rintro e w' ⟨rfl, rfl⟩)
          | (go_at_call 66; refine (HWI.out _).mono ?_; rintro en w' ⟨rfl, rfl⟩)
        have hf := HF.out
        rw [HFR.out] at hf
        refine hf.mono ?_
        clear hf
        rintro e w1 ⟨rfl, hx1⟩
        have HX1 := hide hx1
        clear hx1
        go_wp2_with fail
        go_ret
        exact pdecl_same H.out (HX1.out.alloc _) HC.out (by decide)
      | none =>
        have HC1 : Hid (declCode N s.toList a = if 20 ≤ N.length then 8 else 0) := by show _ = _; rw [HC0.out, if_neg (by rw [ha]; decide)]
        have HFR : Hid (findRes N s = .tuple #[.agg #[.string ⟨#[]⟩, .int .i64 0], .bool false]) := by show _ = _; unfold findRes; rw [ha]
        clear ha
        by_cases hfull : 20 ≤ N.length
        · have HC : Hid (declCode N s.toList a = 8) := by show _ = _; rw [HC1.out, if_pos hfull]
          go_enter Tryz.func42, Tryz.ntmps42
          go_wp2_with first
            | (go_at_call 65; refine (HIS'.out _ hs).mono ?_; rintro e w' ⟨rfl, rfl⟩)
            | (go_at_call 66; refine (HWI.out _).mono ?_; rintro en w' ⟨rfl, rfl⟩)
          have hf := HF.out
          rw [HFR.out] at hf
          refine hf.mono ?_
          clear hf
          rintro e w1 ⟨rfl, hx1⟩
          have c1 := (hx1.cell (p := ⟨sb, 0, none⟩) hsb (fun f => f)).trans c0
          have hl1 : sb < w1.heap.size := Nat.lt_of_lt_of_le hsb hx1.size
          have n1 : ¬ sb = w1.heap.size := by omega
          have HX1 := hide hx1
          clear hx1
          go_wp2_with fail
          go_ret
          exact pdecl_same H.out (HX1.out.alloc _) HC.out (by decide)
        · have HC : Hid (declCode N s.toList a = 0) := by show _ = _; rw [HC1.out, if_neg hfull]
          obtain ⟨i0, hi, hz0, hz1, hz2⟩ := info_parts info131
          have HI : Hid (Tryz.prog.info? 155 = some i0 ∧ i0.zero = some (.agg #[.string ByteArray.empty, .int .i64 0]) ∧ i0.size = 2 ∧ i0.bytes = 24) := ⟨hi, hz0, hz1, hz2⟩
          clear hi hz0 hz1 hz2
          go_enter Tryz.func42, Tryz.ntmps42
          go_wp2_with first
            | (go_at_call 65; refine (HIS'.out _ hs).mono ?_; rintro e w' ⟨rfl, rfl⟩)
            | (go_at_call 66; refine (HWI.out _).mono ?_; rintro en w' ⟨rfl, rfl⟩)
          have hf := HF.out
          rw [HFR.out] at hf
          refine hf.mono ?_
          clear hf
          rintro e w1 ⟨rfl, hx1⟩
          have c1 := (hx1.cell (p := ⟨sb, 0, none⟩) hsb (fun f => f)).trans c0
          have hl1 : sb < w1.heap.size := Nat.lt_of_lt_of_le hsb hx1.size
          have n1 : ¬ sb = w1.heap.size := by omega
          have HX1 := hide hx1
          clear hx1
          go_wp2_with fail
          obtain ⟨W, hW⟩ : ∃ W, w1.alloc (.cells #[.string ⟨#[]⟩, .int .i64 0] 155) = W := ⟨_, rfl⟩
          have hxW : Ext (fun _ => False) w W := by rw [← hW]; exact HX1.out.alloc _
          rw [hW]
          clear hW c0 c1 f0 n1
          have HSZ : Hid (s.size ≤ 8) := by
            have h9 := name_parts s
            rw [HNM.out] at h9
            simp at h9
            show _ ≤ _
            omega
          have kbW := (hxW.block _ hsb (fun f => f)).trans H.out.blk
          have c0 := cell_of_block kbW 0
          have f0 := frozen_of_block kbW 0
          have HXW := hide hxW
          have KBW := hide kbW
          clear hxW kbW
          obtain ⟨hi, hz0, hz1, hz2⟩ := HI.out
          go_region_law (first | (refine step_append_lies _ (by rfl) _ _ _ (by rfl) 0 155 i0 _ 2 24 Tryz.underlying52 hi hz0 hz1 hz2 rfl (by omega) (.slice ar N.length cap) N.length (fnCells N) (by rfl) ((own_ext H.out.own HX2.out (fun _ _ f => f)).alloc _) ⟨w2.heap.size, 0, none⟩ 1 1 [.string s, .int .i64 a] (by rfl) (by rfl) (World.news_of_block (cs := #[.string s, .int .i64 a]) (t := 155) (fr := (0, 0)) (heap_alloc_new w2 _)) (by simp [Value.oneCell']) (by omega) (by unfold maxLen; omega) (by omega) (Nat.zero_le _) (w2.heap.size + 1) (by simp) ?_; intro g cap' w3 hown3 hgrow hat hlt3; have kb3 : w3.heap[sb]? = some (.cells #[.slice ar N.length cap, xs.ts, xs.tm, xs.at_, xs.am, xs.fs, xs.ks] 68) := (hgrow.block sb (by simp; omega) (fun e => H.out.sep sb e.symm rfl)).trans ((Below.heap_alloc w2 _ sb hl2).trans KB2.out); have d0 := cell_of_block kb3 0; have d0f := frozen_of_block kb3 0) | (go_simp; go_wp2_with (go_at_call 68; refine (clone_any s _ HSZ.out).mono ?_; rintro e w2 ⟨rfl, hx2⟩; have HX2 : Hid (Ext (fun _ => False) w w2) := (HXW.out.drew).trans hx2; have kb2 := (HX2.out.block _ hsb (fun f => f)).trans H.out.blk; have c2 := cell_of_block kb2 0; have KB2 := hide kb2; have hl2 := block_lt kb2; clear hx2 kb2)))
          all_goals
            go_wp2_with fail
            go_ret
            have hW : Ext (· = sb) w3 (w3.setCell ⟨sb, 0, none⟩ (.slice (some ⟨g, 0, none⟩) (N.length + 1) cap')) := (Ext.refl (· = sb) w3).setCell (p := ⟨sb, 0, none⟩) (fun _ => rfl) _
            exact pdecl_new H.out HC.out (by omega) (by omega) (by omega) (w0 := w2.alloc _) (HX2.out.alloc _) hgrow hown3 (hat.imp id (fun e => by have := HX2.out.size; omega)) hW (block_setCell kb3 0 _)

set_option maxHeartbeats 400000 in
theorem p_declare {w : World} {sb : Nat} {N : List Nm} {nv : Value} {xs : PX} (F : Int) (s : ByteArray) (a : Int) (h : PS w sb N nv xs) (hs : s.size ≤ maxLen) :
    Calls Tryz.prog 20 #[.pointer (some ⟨sb, 0, none⟩), .string s, .int .i64 a] w (PDecl w sb N nv xs F s a) := by
  have c0 := cell_of_block h.blk 0
  have HC := hide (pt_declare F s a h hs)
  clear h
  go_enter Tryz.func20, Tryz.ntmps20
  go_wp2_with fail
  refine HC.out.mono ?_
  rintro e w1 ⟨rfl, h1, h2⟩
  have H1 := hide h1
  have H2 := hide h2
  clear h1 h2
  go_wp2_with fail
  go_ret
  exact ⟨rfl, H1.out, H2.out⟩

def px0 : PX := ⟨.slice none 0 0, .map none, .slice none 0 0, .map none, .slice none 0 0, .slice none 0 0⟩

set_option maxHeartbeats 400000 in
theorem p_new (w : World) : Calls Tryz.prog 10 #[] w fun e w' => e = .returned (.pointer (some ⟨w.heap.size, 0, none⟩)) ∧ Ext (fun _ => False) w w' ∧ PS w' w.heap.size [] (.slice none 0 0) px0 ∧ w'.heap.size = w.heap.size + 1 := by
  go_enter Tryz.func10, Tryz.ntmps10
  go_wp2_with fail
  go_ret
  refine ⟨rfl, (Ext.refl _ w).alloc _, ⟨heap_alloc_new w _, World.ownsRow_nil _ _ _ _, fun g hg => absurd hg (by simp [Value.ownBlock]), by simp, fun _ h => absurd h (by simp)⟩, by simp⟩

end Go.Proofs.YtihpglkehkgioaaGreatDoor

/- A session of the program beside one of the document: a step of Declare, of Tidy. -/
namespace Go.Proofs.YtihpglkehkgioaaGreatDoor
open Go.RowKit Ar

/-- The blocks of a pair of sessions. -/
def Foot (ps rs : Nat) (pv rv : Value) (k : Nat) : Prop := k = ps ∨ k = rs ∨ pv.ownBlock = some k ∨ rv.ownBlock = some k

/-- A session of the program and one of the document with the same names, apart. -/
structure PairI (w : World) (ps rs : Nat) (N : List Nm) (pv rv : Value) (xs : PX) (lv : Value) (F : Int) : Prop where
  p : PS w ps N pv xs
  r : RefS w rs N rv lv F
  ab : ¬ ps = rs
  pr : ∀ g, pv.ownBlock = some g → ¬ g = rs
  rp : ∀ g, rv.ownBlock = some g → ¬ g = ps
  vv : ∀ g, pv.ownBlock = some g → ¬ rv.ownBlock = some g

theorem PairI.ext {S : Nat → Prop} {w w' : World} {ps rs : Nat} {N : List Nm} {pv rv : Value} {xs : PX} {lv : Value} {F : Int} (h : PairI w ps rs N pv rv xs lv F) (hx : Ext S w w') (hS : ∀ k, Foot ps rs pv rv k → ¬ S k) : PairI w' ps rs N pv rv xs lv F :=
  ⟨h.p.ext hx (hS _ (.inl rfl)) (fun _ hg => hS _ (.inr (.inr (.inl hg)))), h.r.ext hx (hS _ (.inr (.inl rfl))) (fun _ hg => hS _ (.inr (.inr (.inr hg)))), h.ab, h.pr, h.rp, h.vv⟩

theorem PairI.lt {w : World} {ps rs : Nat} {N : List Nm} {pv rv : Value} {xs : PX} {lv : Value} {F : Int} (h : PairI w ps rs N pv rv xs lv F) : ∀ k, Foot ps rs pv rv k → k < w.heap.size := by
  obtain ⟨ans, hb⟩ := h.r.blk
  rintro k (rfl | rfl | e | e)
  · exact block_lt h.p.blk
  · exact block_lt hb
  · exact (h.p.own.lt k e).2
  · exact (h.r.own.lt k e).2

/-- What a step leaves of a pair. -/
def PairPost (w : World) (ps rs : Nat) (N' : List Nm) (pv rv : Value) (xs : PX) (lv : Value) (F : Int) (e : Ending) (w' : World) : Prop :=
  e = .returned (.bool true) ∧ Ext (Foot ps rs pv rv) w w' ∧ ∃ pv' rv', PairI w' ps rs N' pv' rv' xs lv F ∧ (∀ k, Foot ps rs pv' rv' k → Foot ps rs pv rv k ∨ w.heap.size ≤ k)

theorem pair_done {w W w1 w2 : World} {ps rs : Nat} {N N' : List Nm} {pv rv pv' rv' : Value} {xs : PX} {lv : Value} {F : Int} (hI : PairI W ps rs N pv rv xs lv F) (hxW : Ext (fun _ => False) w W) (hlt : ∀ k, Foot ps rs pv rv k → k < w.heap.size)
    (hx1 : Ext (fun k => k = ps ∨ pv.ownBlock = some k) W w1) (hp1 : PS w1 ps N' pv' xs) (hpv : ∀ k, pv'.ownBlock = some k → pv.ownBlock = some k ∨ W.heap.size ≤ k)
    (hx2 : Ext (fun k => k = rs ∨ rv.ownBlock = some k) w1 w2) (hr2 : RefS w2 rs N' rv' lv F) (hrv : ∀ k, rv'.ownBlock = some k → rv.ownBlock = some k ∨ w1.heap.size ≤ k) :
    PairPost w ps rs N' pv rv xs lv F (.returned (.bool true)) w2 := by
  have s0 := hxW.size
  have s1 := hx1.size
  have lps := hlt ps (.inl rfl)
  have lrs := hlt rs (.inr (.inl rfl))
  have lrv : ∀ g, rv.ownBlock = some g → g < w.heap.size := fun g hg => hlt g (.inr (.inr (.inr hg)))
  refine ⟨rfl, ?_, pv', rv', ⟨?_, hr2, hI.ab, ?_, ?_, ?_⟩, ?_⟩
  · exact ((hxW.mono (fun _ _ f => f.elim)).trans' hx1 (fun i _ h => h.elim .inl (fun e => .inr (.inr (.inl e))))).trans' hx2 (fun i _ h => h.elim (fun e => .inr (.inl e)) (fun e => .inr (.inr (.inr e))))
  · refine hp1.ext hx2 ?_ ?_
    · rintro (e | e)
      · exact hI.ab e
      · exact hI.rp ps e rfl
    · rintro g hg (e | e)
      · rcases hpv g hg with h | h
        · exact hI.pr g h e
        · omega
      · rcases hpv g hg with h | h
        · exact hI.vv g h e
        · have := lrv g e; omega
  · intro g hg e
    rcases hpv g hg with h | h
    · exact hI.pr g h e
    · omega
  · intro g hg e
    rcases hrv g hg with h | h
    · exact hI.rp g h e
    · omega
  · intro g hg hq
    have h1 := (hp1.own.lt g hg).2
    rcases hrv g hq with h | h
    · rcases hpv g hg with h' | h'
      · exact hI.vv g h' h
      · have := lrv g h; omega
    · omega
  · rintro k (e | e | e | e)
    · exact .inl (.inl e)
    · exact .inl (.inr (.inl e))
    · exact (hpv k e).imp (fun h => .inr (.inr (.inl h))) (fun h => by omega)
    · exact (hrv k e).imp (fun h => .inr (.inr (.inr h))) (fun h => by omega)

set_option maxRecDepth 100000 in
set_option maxHeartbeats 400000 in
theorem reads_decl {w : World} {ps rs : Nat} {N : List Nm} {pv rv : Value} {xs : PX} {lv : Value} {F : Int} (on : Int) (s : ByteArray) (a : Int) (h : PairI w ps rs N pv rv xs lv F) (hs : s.size ≤ maxLen) :
    Calls Tryz.prog 12 #[.agg #[.pointer (some ⟨ps, 0, none⟩), .pointer (some ⟨rs, 0, none⟩)], .agg #[.int .i64 1, .int .i64 on, .string s, .int .i64 a]] w (PairPost w ps rs (declNames N F s a) pv rv xs lv F) := by
  have H := hide h
  clear h
  go_enter Tryz.func12, Tryz.ntmps12
  go_wp2_with fail
  obtain ⟨W, hW⟩ : ∃ W, (w.alloc (.cells #[.pointer (some ⟨ps, 0, none⟩), .pointer (some ⟨rs, 0, none⟩)] 28)).alloc (.cells #[.int .i64 1, .int .i64 on, .string s, .int .i64 a] 38) = W := ⟨_, rfl⟩
  have hxW : Ext (fun _ => False) w W := by rw [← hW]; exact ((Ext.refl _ w).alloc _).alloc _
  have hWs : W.heap.size = w.heap.size + 2 := by rw [← hW]; simp
  have kA : W.heap[w.heap.size]? = some (.cells #[.pointer (some ⟨ps, 0, none⟩), .pointer (some ⟨rs, 0, none⟩)] 28) := by rw [← hW, heap_alloc_old _ _ (by simp)]; exact heap_alloc_new w _
  have kB : W.heap[w.heap.size + 1]? = some (.cells #[.int .i64 1, .int .i64 on, .string s, .int .i64 a] 38) := by rw [← hW]; exact heap_alloc2_new w _ _
  rw [hW]
  clear hW
  have hI := H.out.ext hxW (fun _ _ f => f)
  have HI := hide hI
  have HXW := hide hxW
  have HLT := hide H.out.lt
  refine (p_declare F s a hI.p hs).mono ?_
  clear hI hxW
  rintro e w1 ⟨rfl, hx1, pv', hp1, hpv⟩
  have hlp : ∀ k, (k = ps ∨ pv.ownBlock = some k) → k < w.heap.size := fun k hk => HLT.out k (hk.elim .inl (fun e => .inr (.inr (.inl e))))
  have hlr : ∀ k, (k = rs ∨ rv.ownBlock = some k) → k < w.heap.size := fun k hk => HLT.out k (hk.elim (fun e => .inr (.inl e)) (fun e => .inr (.inr (.inr e))))
  have kA1 := (hx1.block _ (block_lt kA) (fun h => by have := hlp _ h; omega)).trans kA
  have kB1 := (hx1.block _ (block_lt kB) (fun h => by have := hlp _ h; omega)).trans kB
  have a1 := cell_of_block kA1 1
  have b2 := cell_of_block kB1 2
  have b3 := cell_of_block kB1 3
  have hr1 : RefS w1 rs N rv lv F := by
    refine HI.out.r.ext hx1 ?_ ?_
    · rintro (e | e)
      · exact HI.out.ab e.symm
      · exact HI.out.pr rs e rfl
    · rintro g hg (e | e)
      · exact HI.out.rp g hg e
      · exact HI.out.vv g e hg
  have HR1 := hide hr1
  have HX1 := hide hx1
  have HP1 := hide hp1
  have HPV := hide hpv
  have HLP := hide hlp
  have HLR := hide hlr
  clear hx1 hp1 hpv hr1 kA kB kA1 kB1 hlp hlr
  go_wp2_with fail
  refine (ref_declare s a HR1.out hs).mono ?_
  rintro e w2 ⟨rfl, hx2, rv', hr2, hrv⟩
  have HX2 := hide hx2
  have HR2 := hide hr2
  have HRV := hide hrv
  clear hx2 hr2 hrv a1 b2 b3
  go_wp2_with (go_at_call 22; refine (num_any _ _).mono ?_; rintro e w' ⟨rfl, rfl⟩)
  go_ret
  exact pair_done HI.out HXW.out HLT.out HX1.out HP1.out HPV.out HX2.out HR2.out HRV.out

set_option maxRecDepth 100000 in
set_option maxHeartbeats 400000 in
theorem reads_tidy {w : World} {ps rs : Nat} {N : List Nm} {pv rv : Value} {xs : PX} {lv : Value} {F : Int} (on : Int) (s : ByteArray) (a : Int) (h : PairI w ps rs N pv rv xs lv F) (hs : s.size ≤ maxLen) (hne : 0 < N.length) (hhd : HdLaid w) (hten : TenLaid w) :
    Calls Tryz.prog 12 #[.agg #[.pointer (some ⟨ps, 0, none⟩), .pointer (some ⟨rs, 0, none⟩)], .agg #[.int .i64 2, .int .i64 on, .string s, .int .i64 a]] w (PairPost w ps rs N pv rv xs lv F) := by
  have H := hide h
  have HHD := hide hhd
  have HTEN := hide hten
  clear h hhd hten
  go_enter Tryz.func12, Tryz.ntmps12
  go_wp2_with fail
  obtain ⟨W, hW⟩ : ∃ W, (w.alloc (.cells #[.pointer (some ⟨ps, 0, none⟩), .pointer (some ⟨rs, 0, none⟩)] 28)).alloc (.cells #[.int .i64 2, .int .i64 on, .string s, .int .i64 a] 38) = W := ⟨_, rfl⟩
  have hxW : Ext (fun _ => False) w W := by rw [← hW]; exact ((Ext.refl _ w).alloc _).alloc _
  have kA : W.heap[w.heap.size]? = some (.cells #[.pointer (some ⟨ps, 0, none⟩), .pointer (some ⟨rs, 0, none⟩)] 28) := by rw [← hW, heap_alloc_old _ _ (by simp)]; exact heap_alloc_new w _
  have kB : W.heap[w.heap.size + 1]? = some (.cells #[.int .i64 2, .int .i64 on, .string s, .int .i64 a] 38) := by rw [← hW]; exact heap_alloc2_new w _ _
  rw [hW]
  clear hW
  have hI := H.out.ext hxW (fun _ _ f => f)
  have HI := hide hI
  have HXW := hide hxW
  refine (p_tidy s W hs hI.p.tab (HHD.out.ext hxW (fun f => f)) (HTEN.out.ext hxW (fun f => f))).mono ?_
  clear hI hxW
  rintro e w1 ⟨X, rfl, hX, hx1⟩
  have kA1 := (hx1.block _ (block_lt kA) (fun f => f)).trans kA
  have kB1 := (hx1.block _ (block_lt kB) (fun f => f)).trans kB
  have a1 := cell_of_block kA1 1
  have b2 := cell_of_block kB1 2
  have HX1 := hide hx1
  have HX := hide hX
  clear hx1 hX kA kB kA1 kB1
  go_wp2_with fail
  refine (ref_tidy s (HI.out.ext HX1.out (fun _ _ f => f)).r hne hs).mono ?_
  rintro e w2 ⟨Y, rfl, hY, hx2⟩
  have hXY : Y = X := bytes_ext (hY.trans HX.out.symm)
  subst hXY
  have HX2 := hide hx2
  clear hx2 hY a1 b2
  go_wp2_with (go_at_call 22; refine (num_any _ _).mono ?_; rintro e w' ⟨rfl, rfl⟩)
  go_ret
  have hx := (HXW.out.trans HX1.out).trans HX2.out
  exact ⟨rfl, hx.mono (fun _ _ f => f.elim), pv, rv, H.out.ext hx (fun _ _ f => f), fun k hk => .inl hk⟩

end Go.Proofs.YtihpglkehkgioaaGreatDoor
