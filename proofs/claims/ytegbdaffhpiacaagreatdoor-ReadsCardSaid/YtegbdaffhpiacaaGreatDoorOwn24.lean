/- The program's Tidy; The program's names: Declare; A session of the program beside one of the document: a step of Declare, of Tidy; The law: a step; which session; the book that stays empty; The law: a session of each side is begun; The law: what a script asks of the sessions that it is played on; two of them beside one another; The law: a script is played. -/
import Derived.Test.YtegbdaffhpiacaaGreatDoorOwn22
import Derived.Test.YtegbdaffhpiacaaGreatDoorOwn23
import Derived.Test.YtegbdaffhpiacaaGreatDoorOwn03
import Derived.Deep.AppendLies
import Derived.Test.YtegbdaffhpiacaaGreatDoorOwn04
/- The program's Tidy. -/
namespace Go.Proofs.YtegbdaffhpiacaaGreatDoor
open Go.RowKit Ar

theorem whole_no {N : List Nm} {l : List UInt8} {e : Int} {p : Nat} (h : rdWhole N l = .no e p) : e ≠ 0 := by
  have hg := form_gd N (toks l).length 0 (toks l) (go_wf l 0 []) (Nat.le_refl _)
  unfold rdWhole at h
  split at h
  · rename_i e1 p1 hr
    simp at h
    obtain ⟨rfl, rfl⟩ := h
    exact hg.1 _ _ hr
  · rename_i nd hr
    exact absurd (hg.2 _ _ hr).1 (by simp [TW])
  · split at h
    · simp at h
    · simp at h
      obtain ⟨rfl, rfl⟩ := h
      decide

theorem whole_ok {N : List Nm} {s : ByteArray} {nd : Nd} {ts : List Tk} (hs : s.size ≤ 600) (h : rdWhole N s.toList = .ok nd ts) : NOk nd ∧ (formOf nd).length ≤ 1000000 := by
  unfold rdWhole at h
  split at h
  · simp at h
  · simp at h
  · rename_i nd' t us hr
    split at h
    · simp at h
      obtain ⟨rfl, _⟩ := h
      have h1 := form_fits N _ _ _ _ _ (go_short s.toList 600 0 [] (by rw [len_toList]; simp; omega) (by omega)) hr
      have h2 := toks_len s.toList
      rw [len_toList] at h2
      have h3 := h1.1
      refine ⟨form_oks N _ _ _ _ _ hr, ?_⟩
      have h4 : (tkGo 0 [] s.toList).length = (toks s.toList).length := rfl
      omega
    · simp at h

set_option maxRecDepth 100000 in
set_option maxHeartbeats 400000 in
theorem p_tidy {sb : Nat} {nv : Value} {N : List Nm} (s : ByteArray) (w : World) (hm : s.size ≤ maxLen) (hN : PTab w sb nv N) (hhd : HdLaid w) (ht : TenLaid w) :
    Calls Tryz.prog 52 #[.pointer (some ⟨sb, 0, none⟩), .string s] w fun e w' => ∃ X : ByteArray, e = .returned (.tuple #[.string X, .int .i64 (tidyOut N s).2.1, .int .i64 (tidyOut N s).2.2]) ∧ X.toList = (tidyOut N s).1 ∧ Ext (fun _ => False) w w' := by
  have c0 := hN.tbl
  by_cases hs : 600 < s.size
  · have HC := hide (p_Formula_long (.pointer (some ⟨sb, 0, none⟩)) s w hs hm)
    have HRES : Hid (tidyOut N s = ([], 0, 1)) := by show _ = _; unfold tidyOut; rw [if_pos hs]
    clear hN hhd ht hs hm
    go_enter Tryz.func52, Tryz.ntmps52
    go_wp2_with fail
    refine HC.out.mono ?_
    rintro e w1 ⟨rfl, hx1⟩
    have HX1 := hide hx1
    clear hx1
    go_wp2_with fail
    go_ret3
    rw [HRES.out]
    exact ⟨_, rfl, empty_toList, HX1.out.alloc _⟩
  · have hs' : s.size ≤ 600 := by omega
    have HC := hide (p_Formula s w hs' hN hhd)
    have HT := hide ht
    cases hr : rdWhole N s.toList with
    | no e p =>
      have HRES : Hid (tidyOut N s = ([], (p : Int), e)) := by show _ = _; unfold tidyOut; rw [if_neg hs, hr]
      have he0 : (e != 0) = true := by simpa using whole_no hr
      have HR := hide hr
      clear hN hhd ht hs hm hr hs'
      go_enter Tryz.func52, Tryz.ntmps52
      go_wp2_with fail
      refine HC.out.mono ?_
      rintro en w1 ⟨hx1, hp⟩
      rw [HR.out] at hp
      have hp' : en = _ := hp
      subst hp'
      have HX1 := hide hx1
      clear hx1 hp
      go_wp2_with fail
      go_ret3
      rw [HRES.out]
      exact ⟨_, rfl, empty_toList, HX1.out.alloc _⟩
    | ok nd ts' =>
      have HRES : Hid (tidyOut N s = (formOf nd, 0, 0)) := by show _ = _; unfold tidyOut; rw [if_neg hs, hr]
      have HOK := hide (whole_ok hs' hr)
      have HR := hide hr
      clear hN hhd ht hs hm hr hs'
      go_enter Tryz.func52, Tryz.ntmps52
      go_wp2_with fail
      refine HC.out.mono ?_
      rintro en w1 ⟨hx1, hp⟩
      rw [HR.out] at hp
      obtain ⟨k, wd, v, sa, sn, sc, rfl, hpn⟩ := hp
      have HX1 : Hid (Ext (fun _ => False) w (w1.alloc (.cells #[.int .i64 k, .string wd, .int .i64 v, .slice sa sn sc] 115))) := hx1.alloc _
      have HPN := hide ((hpn.ext ((Ext.refl (fun _ => False) w1).alloc (.cells #[.int .i64 k, .string wd, .int .i64 v, .slice sa sn sc] 115)) (fun _ _ _ f => f)).mono (D' := fun _ => True) (fun _ _ _ => trivial))
      clear hx1 hpn
      go_wp2_with fail
      refine (one_any k v wd sa sn sc nd HOK.out.1 HPN.out (HT.out.ext HX1.out (fun f => f)) HOK.out.2).mono ?_
      rintro e w2 ⟨rfl, hx2⟩
      have HX2 : Hid (Ext (fun _ => False) w w2) := HX1.out.trans hx2
      clear hx2
      go_wp2_with fail
      go_ret3
      rw [HRES.out]
      exact ⟨_, rfl, mk_toList _, HX2.out⟩

end Go.Proofs.YtegbdaffhpiacaaGreatDoor

/- The program's names: Declare. -/
namespace Go.Proofs.YtegbdaffhpiacaaGreatDoor
open Go.RowKit Ar

/-- What else a session of the program keeps. -/
structure PX where
  ts : Value
  tm : Value
  at_ : Value
  am : Value
  fs : Value
  ks : Value
  vd : Value
  ml : Value

/-- A session of the program: its block, its names. -/
structure PS (w : World) (sb : Nat) (N : List Nm) (nv : Value) (xs : PX) : Prop where
  blk : w.heap[sb]? = some (.cells #[nv, xs.ts, xs.tm, xs.at_, xs.am, xs.fs, xs.ks, xs.vd, xs.ml] 98)
  own : w.ownsRow 0 142 2 nv N.length (fnCells N)
  sep : ∀ g, nv.ownBlock = some g → ¬ g = sb
  few : N.length ≤ 20
  ok : ∀ x ∈ N, 0 ≤ x.ar ∧ x.ar ≤ 3

theorem PS.ext {S : Nat → Prop} {w w' : World} {sb : Nat} {N : List Nm} {nv : Value} {xs : PX} (h : PS w sb N nv xs) (hx : Ext S w w') (h1 : ¬ S sb) (h2 : ∀ g, nv.ownBlock = some g → ¬ S g) : PS w' sb N nv xs :=
  ⟨(hx.block _ (block_lt h.blk) h1).trans h.blk, own_ext h.own hx h2, h.sep, h.few, h.ok⟩

theorem PS.tab {w : World} {sb : Nat} {N : List Nm} {nv : Value} {xs : PX} (h : PS w sb N nv xs) : PTab w sb nv N :=
  ⟨h.few, h.ok, cell_of_block h.blk 0, block_lt h.blk, h.own⟩

def PDecl (w : World) (sb : Nat) (N : List Nm) (nv : Value) (xs : PX) (F : Int) (s : ByteArray) (a : Int) (e : Ending) (w' : World) : Prop :=
  e = .returned (.int .i64 (declCode N s.toList a)) ∧ Ext (fun k => k = sb ∨ nv.ownBlock = some k) w w' ∧ ∃ nv', PS w' sb (declNames N F s a) nv' xs ∧ (∀ k, nv'.ownBlock = some k → nv.ownBlock = some k ∨ w.heap.size ≤ k)

theorem pdecl_same {w w' : World} {sb : Nat} {N : List Nm} {nv : Value} {xs : PX} {F : Int} {s : ByteArray} {a c : Int} (h : PS w sb N nv xs) (hx : Ext (fun _ => False) w w') (hc : declCode N s.toList a = c) (h0 : ¬ c = 0) : PDecl w sb N nv xs F s a (.returned (.int .i64 c)) w' := by
  refine ⟨by rw [hc], hx.mono (fun _ _ f => f.elim), nv, ?_, fun k hk => Or.inl hk⟩
  rw [declNames, if_neg (by rw [hc]; exact h0)]
  exact h.ext hx (fun f => f) (fun _ _ f => f)

theorem pdecl_new {w w0 w1 W : World} {sb g cap' : Nat} {N : List Nm} {nv : Value} {xs : PX} {F : Int} {s : ByteArray} {a : Int} (h : PS w sb N nv xs) (hc : declCode N s.toList a = 0) (ha0 : 0 ≤ a) (ha3 : a ≤ 3) (hfew : N.length < 20)
    (h0 : Ext (fun _ => False) w w0) (hgrow : w0.grownBy w1 nv.ownBlock) (hown1 : w1.ownsRow 0 142 2 (.slice (some ⟨g, 0, none⟩) (N.length + 1) cap') (N.length + 1) (fnCells N ++ [.string s, .int .i64 a]))
    (hat : nv.ownBlock = some g ∨ w.heap.size ≤ g) (hW : Ext (· = sb) w1 W) (kW : W.heap[sb]? = some (.cells #[.slice (some ⟨g, 0, none⟩) (N.length + 1) cap', xs.ts, xs.tm, xs.at_, xs.am, xs.fs, xs.ks, xs.vd, xs.ml] 98)) :
    PDecl w sb N nv xs F s a (.returned (.int .i64 0)) W := by
  have hsb := block_lt h.blk
  have hgs : ¬ g = sb := by
    rcases hat with e | e
    · exact h.sep g e
    · omega
  have h1 : Ext (fun k => nv.ownBlock = some k) w w1 := (h0.mono (fun _ _ f => f.elim)).grown hgrow (fun k hk _ => hk)
  refine ⟨by rw [hc], ?_, .slice (some ⟨g, 0, none⟩) (N.length + 1) cap', ?_, ?_⟩
  · exact (h1.mono (fun k _ hk => Or.inr hk)).trans' hW (fun i _ e => Or.inl e)
  · rw [declNames, if_pos hc]
    refine ⟨kW, ?_, ?_, ?_, ?_⟩
    · rw [fnCells_snoc, List.length_append]
      exact own_ext hown1 hW (fun k hk e => by simp [Value.ownBlock] at hk; omega)
    · intro k hk
      simp [Value.ownBlock] at hk
      omega
    · simp; omega
    · intro x hx
      rcases List.mem_append.1 hx with hx | hx
      · exact h.ok x hx
      · simp at hx; subst hx; exact ⟨ha0, ha3⟩
  · intro k hk
    simp [Value.ownBlock] at hk
    subst hk
    exact hat

set_option maxHeartbeats 400000 in
theorem clone_any (s : ByteArray) (w : World) (hs : s.size ≤ 8) :
    Calls Tryz.prog 70 #[.string s] w fun e w' => e = .returned (.string s) ∧ Ext (fun _ => False) w w' := by
  have hc := Tryz.stringslite_Clone s w (by omega)
  have HC := hide hc
  clear hc
  go_enter Tryz.func70, Tryz.ntmps70
  go_wp2_with fail
  refine HC.out.mono ?_
  rintro e w1 ⟨rfl, hb⟩
  have HX := hide ((Ext.refl (fun _ => False) w).below hb)
  clear hb
  go_wp2_with fail
  go_ret
  exact ⟨rfl, HX.out⟩

theorem info131 : (Tryz.prog.info? 142).map (fun i => (i.zero, i.size, i.bytes)) = some (some (.agg #[.string ByteArray.empty, .int .i64 0]), 2, 24) := by kernel_rfl

set_option maxRecDepth 100000 in
set_option maxHeartbeats 400000 in
theorem pt_declare {w : World} {sb : Nat} {N : List Nm} {nv : Value} {xs : PX} (F : Int) (s : ByteArray) (a : Int) (h : PS w sb N nv xs) (hs : s.size ≤ maxLen) :
    Calls Tryz.prog 46 #[.pointer (some ⟨sb, 0, none⟩), .string s, .int .i64 a] w (PDecl w sb N nv xs F s a) := by
  have c0 := cell_of_block h.blk 0
  have f0 := frozen_of_block h.blk 0
  have hfew := h.few
  have hsb := block_lt h.blk
  have H := hide h
  have HIS := gIs s
  have HIS' := hide HIS
  have HWI := hide (gWithinInt a 0 3)
  obtain ⟨ar, cap, hnv, _⟩ := own_shape2 h.own
  subst hnv
  clear h HIS
  have HX0 : Hid (Ext (fun _ => False) w (w.alloc (.cells #[.string ⟨#[]⟩, .int .i64 0] 142))) := (Ext.refl _ w).alloc _
  cases hn : isName s.toList with
  | false =>
    have HC : Hid (declCode N s.toList a = 3) := by show _ = _; rw [declCode, if_pos hn]
    go_enter Tryz.func46, Tryz.ntmps46
    go_wp2_with (go_at_call 67; refine (HIS'.out _ hs).mono ?_; rintro e w' ⟨rfl, rfl⟩)
    go_ret
    exact pdecl_same H.out (Ext.refl _ _) HC.out (by decide)
  | true =>
    by_cases hr : a < 0 ∨ 3 < a
    · have HC : Hid (declCode N s.toList a = 4) := by show _ = _; rw [declCode, if_neg (by rw [hn]; decide), if_pos hr]
      have hd : decide (0 ≤ a ∧ a ≤ 3) = false := decide_eq_false (by omega)
      go_enter Tryz.func46, Tryz.ntmps46
      go_wp2_with first
        | (go_at_call 67; refine (HIS'.out _ hs).mono ?_; rintro e w' ⟨rfl, rfl⟩)
        | (go_at_call 68; refine (HWI.out _).mono ?_; rintro en w' ⟨rfl, rfl⟩)
      go_ret
      exact pdecl_same H.out (Ext.refl _ _) HC.out (by decide)
    · have HC0 : Hid (declCode N s.toList a = if (arOf N s.toList).isSome = true then 7 else if 20 ≤ N.length then 8 else 0) := by
        show _ = _
        rw [declCode, if_neg (by rw [hn]; decide), if_neg hr]
      have hd : decide (0 ≤ a ∧ a ≤ 3) = true := decide_eq_true (by omega)
      have HNM := hide hn
      have HF := hide (p_find s H.out.tab.tbl H.out.own hfew hsb)
      cases ha : arOf N s.toList with
      | some b =>
        have HC : Hid (declCode N s.toList a = 7) := by show _ = _; rw [HC0.out, if_pos (by rw [ha]; rfl)]
        have HFR : Hid (findRes N s = .tuple #[.agg #[.string s, .int .i64 b], .bool true]) := by show _ = _; unfold findRes; rw [ha]
        clear ha
        go_enter Tryz.func46, Tryz.ntmps46
        go_wp2_with first
          | (go_at_call 67; refine (HIS'.out _ hs).mono ?_; rintro e w' ⟨rfl, rfl⟩)
          | (go_at_call 68; refine (HWI.out _).mono ?_; rintro en w' ⟨rfl, rfl⟩)
        have hf := HF.out
        rw [HFR.out] at hf
        refine hf.mono ?_
        clear hf
        rintro e w1 ⟨rfl, hx1⟩
        have HX1 := hide hx1
        clear hx1
        go_wp2_with fail
        go_ret
        exact pdecl_same H.out (HX1.out.alloc _) HC.out (by decide)
      | none =>
        have HC1 : Hid (declCode N s.toList a = if 20 ≤ N.length then 8 else 0) := by show _ = _; rw [HC0.out, if_neg (by rw [ha]; decide)]
        have HFR : Hid (findRes N s = .tuple #[.agg #[.string ⟨#[]⟩, .int .i64 0], .bool false]) := by show _ = _; unfold findRes; rw [ha]
        clear ha
        by_cases hfull : 20 ≤ N.length
        · have HC : Hid (declCode N s.toList a = 8) := by show _ = _; rw [HC1.out, if_pos hfull]
          go_enter Tryz.func46, Tryz.ntmps46
          go_wp2_with first
            | (go_at_call 67; refine (HIS'.out _ hs).mono ?_; rintro e w' ⟨rfl, rfl⟩)
            | (go_at_call 68; refine (HWI.out _).mono ?_; rintro en w' ⟨rfl, rfl⟩)
          have hf := HF.out
          rw [HFR.out] at hf
          refine hf.mono ?_
          clear hf
          rintro e w1 ⟨rfl, hx1⟩
          have c1 := (hx1.cell (p := ⟨sb, 0, none⟩) hsb (fun f => f)).trans c0
          have hl1 : sb < w1.heap.size := Nat.lt_of_lt_of_le hsb hx1.size
          have n1 : ¬ sb = w1.heap.size := by omega
          have HX1 := hide hx1
          clear hx1
          go_wp2_with fail
          go_ret
          exact pdecl_same H.out (HX1.out.alloc _) HC.out (by decide)
        · have HC : Hid (declCode N s.toList a = 0) := by show _ = _; rw [HC1.out, if_neg hfull]
          obtain ⟨i0, hi, hz0, hz1, hz2⟩ := info_parts info131
          have HI : Hid (Tryz.prog.info? 142 = some i0 ∧ i0.zero = some (.agg #[.string ByteArray.empty, .int .i64 0]) ∧ i0.size = 2 ∧ i0.bytes = 24) := ⟨hi, hz0, hz1, hz2⟩
          clear hi hz0 hz1 hz2
          go_enter Tryz.func46, Tryz.ntmps46
          go_wp2_with first
            | (go_at_call 67; refine (HIS'.out _ hs).mono ?_; rintro e w' ⟨rfl, rfl⟩)
            | (go_at_call 68; refine (HWI.out _).mono ?_; rintro en w' ⟨rfl, rfl⟩)
          have hf := HF.out
          rw [HFR.out] at hf
          refine hf.mono ?_
          clear hf
          rintro e w1 ⟨rfl, hx1⟩
          have c1 := (hx1.cell (p := ⟨sb, 0, none⟩) hsb (fun f => f)).trans c0
          have hl1 : sb < w1.heap.size := Nat.lt_of_lt_of_le hsb hx1.size
          have n1 : ¬ sb = w1.heap.size := by omega
          have HX1 := hide hx1
          clear hx1
          go_wp2_with fail
          obtain ⟨W, hW⟩ : ∃ W, w1.alloc (.cells #[.string ⟨#[]⟩, .int .i64 0] 142) = W := ⟨_, rfl⟩
          have hxW : Ext (fun _ => False) w W := by rw [← hW]; exact HX1.out.alloc _
          rw [hW]
          clear hW c0 c1 f0 n1
          have HSZ : Hid (s.size ≤ 8) := by
            have h9 := name_parts s
            rw [HNM.out] at h9
            simp at h9
            show _ ≤ _
            omega
          have kbW := (hxW.block _ hsb (fun f => f)).trans H.out.blk
          have c0 := cell_of_block kbW 0
          have f0 := frozen_of_block kbW 0
          have HXW := hide hxW
          have KBW := hide kbW
          clear hxW kbW
          obtain ⟨hi, hz0, hz1, hz2⟩ := HI.out
          go_region_law (first | (refine step_append_lies _ (by rfl) _ _ _ (by rfl) 0 142 i0 _ 2 24 Tryz.underlying76 hi hz0 hz1 hz2 rfl (by omega) (.slice ar N.length cap) N.length (fnCells N) (by rfl) ((own_ext H.out.own HX2.out (fun _ _ f => f)).alloc _) ⟨w2.heap.size, 0, none⟩ 1 1 [.string s, .int .i64 a] (by rfl) (by rfl) (World.news_of_block (cs := #[.string s, .int .i64 a]) (t := 142) (fr := (0, 0)) (heap_alloc_new w2 _)) (by simp [Value.oneCell']) (by omega) (by unfold maxLen; omega) (by omega) (Nat.zero_le _) (w2.heap.size + 1) (by simp) ?_; intro g cap' w3 hown3 hgrow hat hlt3; have kb3 : w3.heap[sb]? = some (.cells #[.slice ar N.length cap, xs.ts, xs.tm, xs.at_, xs.am, xs.fs, xs.ks, xs.vd, xs.ml] 98) := (hgrow.block sb (by simp; omega) (fun e => H.out.sep sb e.symm rfl)).trans ((Below.heap_alloc w2 _ sb hl2).trans KB2.out); have d0 := cell_of_block kb3 0; have d0f := frozen_of_block kb3 0) | (go_simp; go_wp2_with (go_at_call 70; refine (clone_any s _ HSZ.out).mono ?_; rintro e w2 ⟨rfl, hx2⟩; have HX2 : Hid (Ext (fun _ => False) w w2) := (HXW.out.drew).trans hx2; have kb2 := (HX2.out.block _ hsb (fun f => f)).trans H.out.blk; have c2 := cell_of_block kb2 0; have KB2 := hide kb2; have hl2 := block_lt kb2; clear hx2 kb2)))
          all_goals
            go_wp2_with fail
            go_ret
            have hW : Ext (· = sb) w3 (w3.setCell ⟨sb, 0, none⟩ (.slice (some ⟨g, 0, none⟩) (N.length + 1) cap')) := (Ext.refl (· = sb) w3).setCell (p := ⟨sb, 0, none⟩) (fun _ => rfl) _
            exact pdecl_new H.out HC.out (by omega) (by omega) (by omega) (w0 := w2.alloc _) (HX2.out.alloc _) hgrow hown3 (hat.imp id (fun e => by have := HX2.out.size; omega)) hW (block_setCell kb3 0 _)

/-- Nothing is found any more. -/
def PX.fg (xs : PX) : PX := { xs with vd := .int .i64 0, ml := .map none }

theorem two78_ext (w : World) (b i j : Nat) (u v : Value) : Ext (fun k => k = b) w ((w.setCell ⟨b, i, none⟩ u).setCell ⟨b, j, none⟩ v) :=
  ((Ext.refl (fun k => k = b) w).setCell (p := ⟨b, i, none⟩) (fun _ => rfl) _).setCell (p := ⟨b, j, none⟩) (fun _ => rfl) _

set_option maxHeartbeats 400000 in
theorem p_forget {w : World} {sb : Nat} {nv ts tm at_ am fs ks vd ml : Value} (kb : w.heap[sb]? = some (.cells #[nv, ts, tm, at_, am, fs, ks, vd, ml] 98)) :
    Calls Tryz.prog 42 #[.pointer (some ⟨sb, 0, none⟩)] w fun e w' => e = .returned (.tuple #[]) ∧ Ext (fun k => k = sb) w w' ∧ w'.heap[sb]? = some (.cells #[nv, ts, tm, at_, am, fs, ks, .int .i64 0, .map none] 98) := by
  have c7 := cell_of_block kb 7
  have c8 := cell_of_block kb 8
  have f7 := frozen_of_block kb 7
  have f8 := frozen_of_block kb 8
  have KB := hide kb
  clear kb
  go_enter Tryz.func42, Tryz.ntmps42
  go_wp2_with fail
  go_end0
  refine ⟨rfl, two78_ext _ _ _ _ _ _, ?_⟩
  exact block_setCell (block_setCell KB.out 7 _) 8 _

def PDeclG (w : World) (sb : Nat) (N : List Nm) (nv : Value) (xs : PX) (F : Int) (s : ByteArray) (a : Int) (e : Ending) (w' : World) : Prop :=
  e = .returned (.int .i64 (declCode N s.toList a)) ∧ Ext (fun k => k = sb ∨ nv.ownBlock = some k) w w' ∧ ∃ nv', PS w' sb (declNames N F s a) nv' (if declCode N s.toList a = 0 then xs.fg else xs) ∧ (∀ k, nv'.ownBlock = some k → nv.ownBlock = some k ∨ w.heap.size ≤ k)

set_option maxHeartbeats 400000 in
theorem p_declareG {w : World} {sb : Nat} {N : List Nm} {nv : Value} {xs : PX} (F : Int) (s : ByteArray) (a : Int) (h : PS w sb N nv xs) (hs : s.size ≤ maxLen) :
    Calls Tryz.prog 20 #[.pointer (some ⟨sb, 0, none⟩), .string s, .int .i64 a] w (PDeclG w sb N nv xs F s a) := by
  have c0 := cell_of_block h.blk 0
  have HC := hide (pt_declare F s a h hs)
  clear h
  go_enter Tryz.func20, Tryz.ntmps20
  go_wp2_with fail
  refine HC.out.mono ?_
  rintro e w1 ⟨rfl, h1, nv', h2, h3⟩
  have H1 := hide h1
  have H2 := hide h2
  have H3 := hide h3
  clear h1 h2 h3
  by_cases h0 : declCode N s.toList a = 0
  · have H0 := hide h0
    rw [h0]
    clear h0
    go_wp2_with fail
    refine (p_forget H2.out.blk).mono ?_
    rintro e w2 ⟨rfl, hx2, kb2⟩
    have HX2 := hide hx2
    have KB2 := hide kb2
    clear hx2 kb2
    go_wp2_with fail
    go_ret
    refine ⟨by rw [H0.out]; rfl, H1.out.trans (HX2.out.mono (fun _ _ e => .inl e)), nv', ?_, H3.out⟩
    rw [if_pos H0.out]
    exact ⟨KB2.out, own_ext H2.out.own HX2.out (fun g hg e => H2.out.sep g hg e), H2.out.sep, H2.out.few, H2.out.ok⟩
  · have he : (declCode N s.toList a == 0) = false := by simpa using h0
    have H0 := hide h0
    clear h0
    go_wp2_with fail
    go_ret
    refine ⟨rfl, H1.out, nv', ?_, H3.out⟩
    rw [if_neg H0.out]
    exact H2.out

/-- Where nothing has been found. -/
theorem p_declare {w : World} {sb : Nat} {N : List Nm} {nv : Value} {xs : PX} (F : Int) (s : ByteArray) (a : Int) (h : PS w sb N nv xs) (hs : s.size ≤ maxLen) (hf : xs.fg = xs) :
    Calls Tryz.prog 20 #[.pointer (some ⟨sb, 0, none⟩), .string s, .int .i64 a] w (PDecl w sb N nv xs F s a) := by
  refine (p_declareG F s a h hs).mono ?_
  rintro e w' ⟨h1, h2, nv', h3, h4⟩
  rw [hf, ite_self] at h3
  exact ⟨h1, h2, nv', h3, h4⟩

def px0 : PX := ⟨.slice none 0 0, .map none, .slice none 0 0, .map none, .slice none 0 0, .slice none 0 0, .int .i64 0, .map none⟩

set_option maxHeartbeats 400000 in
theorem p_new (w : World) : Calls Tryz.prog 36 #[] w fun e w' => e = .returned (.pointer (some ⟨w.heap.size, 0, none⟩)) ∧ Ext (fun _ => False) w w' ∧ PS w' w.heap.size [] (.slice none 0 0) px0 ∧ w'.heap.size = w.heap.size + 1 := by
  go_enter Tryz.func36, Tryz.ntmps36
  go_wp2_with fail
  go_ret
  refine ⟨rfl, (Ext.refl _ w).alloc _, ⟨heap_alloc_new w _, World.ownsRow_nil _ _ _ _, fun g hg => absurd hg (by simp [Value.ownBlock]), by simp, fun _ h => absurd h (by simp)⟩, by simp⟩

end Go.Proofs.YtegbdaffhpiacaaGreatDoor

/- A session of the program beside one of the document: a step of Declare, of Tidy. -/
namespace Go.Proofs.YtegbdaffhpiacaaGreatDoor
open Go.RowKit Ar

/-- The blocks of a pair of sessions. -/
def Foot (ps rs : Nat) (pv rv : Value) (k : Nat) : Prop := k = ps ∨ k = rs ∨ pv.ownBlock = some k ∨ rv.ownBlock = some k

/-- A session of the program and one of the document with the same names, apart. -/
structure PairI (w : World) (ps rs : Nat) (N : List Nm) (pv rv : Value) (xs : PX) (lv : Value) (F : Int) : Prop where
  p : PS w ps N pv xs
  r : RefS w rs N rv lv F
  ab : ¬ ps = rs
  pr : ∀ g, pv.ownBlock = some g → ¬ g = rs
  rp : ∀ g, rv.ownBlock = some g → ¬ g = ps
  vv : ∀ g, pv.ownBlock = some g → ¬ rv.ownBlock = some g

theorem PairI.ext {S : Nat → Prop} {w w' : World} {ps rs : Nat} {N : List Nm} {pv rv : Value} {xs : PX} {lv : Value} {F : Int} (h : PairI w ps rs N pv rv xs lv F) (hx : Ext S w w') (hS : ∀ k, Foot ps rs pv rv k → ¬ S k) : PairI w' ps rs N pv rv xs lv F :=
  ⟨h.p.ext hx (hS _ (.inl rfl)) (fun _ hg => hS _ (.inr (.inr (.inl hg)))), h.r.ext hx (hS _ (.inr (.inl rfl))) (fun _ hg => hS _ (.inr (.inr (.inr hg)))), h.ab, h.pr, h.rp, h.vv⟩

theorem PairI.lt {w : World} {ps rs : Nat} {N : List Nm} {pv rv : Value} {xs : PX} {lv : Value} {F : Int} (h : PairI w ps rs N pv rv xs lv F) : ∀ k, Foot ps rs pv rv k → k < w.heap.size := by
  obtain ⟨ans, hb⟩ := h.r.blk
  rintro k (rfl | rfl | e | e)
  · exact block_lt h.p.blk
  · exact block_lt hb
  · exact (h.p.own.lt k e).2
  · exact (h.r.own.lt k e).2

/-- What a step leaves of a pair. -/
def PairPost (w : World) (ps rs : Nat) (N' : List Nm) (pv rv : Value) (xs : PX) (lv : Value) (F : Int) (e : Ending) (w' : World) : Prop :=
  e = .returned (.bool true) ∧ Ext (Foot ps rs pv rv) w w' ∧ ∃ pv' rv', PairI w' ps rs N' pv' rv' xs lv F ∧ (∀ k, Foot ps rs pv' rv' k → Foot ps rs pv rv k ∨ w.heap.size ≤ k)

theorem pair_done {w W w1 w2 : World} {ps rs : Nat} {N N' : List Nm} {pv rv pv' rv' : Value} {xs : PX} {lv : Value} {F : Int} (hI : PairI W ps rs N pv rv xs lv F) (hxW : Ext (fun _ => False) w W) (hlt : ∀ k, Foot ps rs pv rv k → k < w.heap.size)
    (hx1 : Ext (fun k => k = ps ∨ pv.ownBlock = some k) W w1) (hp1 : PS w1 ps N' pv' xs) (hpv : ∀ k, pv'.ownBlock = some k → pv.ownBlock = some k ∨ W.heap.size ≤ k)
    (hx2 : Ext (fun k => k = rs ∨ rv.ownBlock = some k) w1 w2) (hr2 : RefS w2 rs N' rv' lv F) (hrv : ∀ k, rv'.ownBlock = some k → rv.ownBlock = some k ∨ w1.heap.size ≤ k) :
    PairPost w ps rs N' pv rv xs lv F (.returned (.bool true)) w2 := by
  have s0 := hxW.size
  have s1 := hx1.size
  have lps := hlt ps (.inl rfl)
  have lrs := hlt rs (.inr (.inl rfl))
  have lrv : ∀ g, rv.ownBlock = some g → g < w.heap.size := fun g hg => hlt g (.inr (.inr (.inr hg)))
  refine ⟨rfl, ?_, pv', rv', ⟨?_, hr2, hI.ab, ?_, ?_, ?_⟩, ?_⟩
  · exact ((hxW.mono (fun _ _ f => f.elim)).trans' hx1 (fun i _ h => h.elim .inl (fun e => .inr (.inr (.inl e))))).trans' hx2 (fun i _ h => h.elim (fun e => .inr (.inl e)) (fun e => .inr (.inr (.inr e))))
  · refine hp1.ext hx2 ?_ ?_
    · rintro (e | e)
      · exact hI.ab e
      · exact hI.rp ps e rfl
    · rintro g hg (e | e)
      · rcases hpv g hg with h | h
        · exact hI.pr g h e
        · omega
      · rcases hpv g hg with h | h
        · exact hI.vv g h e
        · have := lrv g e; omega
  · intro g hg e
    rcases hpv g hg with h | h
    · exact hI.pr g h e
    · omega
  · intro g hg e
    rcases hrv g hg with h | h
    · exact hI.rp g h e
    · omega
  · intro g hg hq
    have h1 := (hp1.own.lt g hg).2
    rcases hrv g hq with h | h
    · rcases hpv g hg with h' | h'
      · exact hI.vv g h' h
      · have := lrv g h; omega
    · omega
  · rintro k (e | e | e | e)
    · exact .inl (.inl e)
    · exact .inl (.inr (.inl e))
    · exact (hpv k e).imp (fun h => .inr (.inr (.inl h))) (fun h => by omega)
    · exact (hrv k e).imp (fun h => .inr (.inr (.inr h))) (fun h => by omega)

set_option maxRecDepth 100000 in
set_option maxHeartbeats 400000 in
theorem reads_decl {w : World} {ps rs : Nat} {N : List Nm} {pv rv : Value} {xs : PX} {lv : Value} {F : Int} (on : Int) (s : ByteArray) (a : Int) (h : PairI w ps rs N pv rv xs lv F) (hs : s.size ≤ maxLen) (hf : xs.fg = xs) :
    Calls Tryz.prog 53 #[.agg #[.pointer (some ⟨ps, 0, none⟩), .pointer (some ⟨rs, 0, none⟩)], .agg #[.int .i64 1, .int .i64 on, .string s, .int .i64 a]] w (PairPost w ps rs (declNames N F s a) pv rv xs lv F) := by
  have H := hide h
  clear h
  go_enter Tryz.func53, Tryz.ntmps53
  go_wp2_with fail
  obtain ⟨W, hW⟩ : ∃ W, (w.alloc (.cells #[.pointer (some ⟨ps, 0, none⟩), .pointer (some ⟨rs, 0, none⟩)] 57)).alloc (.cells #[.int .i64 1, .int .i64 on, .string s, .int .i64 a] 66) = W := ⟨_, rfl⟩
  have hxW : Ext (fun _ => False) w W := by rw [← hW]; exact ((Ext.refl _ w).alloc _).alloc _
  have hWs : W.heap.size = w.heap.size + 2 := by rw [← hW]; simp
  have kA : W.heap[w.heap.size]? = some (.cells #[.pointer (some ⟨ps, 0, none⟩), .pointer (some ⟨rs, 0, none⟩)] 57) := by rw [← hW, heap_alloc_old _ _ (by simp)]; exact heap_alloc_new w _
  have kB : W.heap[w.heap.size + 1]? = some (.cells #[.int .i64 1, .int .i64 on, .string s, .int .i64 a] 66) := by rw [← hW]; exact heap_alloc2_new w _ _
  rw [hW]
  clear hW
  have hI := H.out.ext hxW (fun _ _ f => f)
  have HI := hide hI
  have HXW := hide hxW
  have HLT := hide H.out.lt
  refine (p_declare F s a hI.p hs hf).mono ?_
  clear hI hxW
  rintro e w1 ⟨rfl, hx1, pv', hp1, hpv⟩
  have hlp : ∀ k, (k = ps ∨ pv.ownBlock = some k) → k < w.heap.size := fun k hk => HLT.out k (hk.elim .inl (fun e => .inr (.inr (.inl e))))
  have hlr : ∀ k, (k = rs ∨ rv.ownBlock = some k) → k < w.heap.size := fun k hk => HLT.out k (hk.elim (fun e => .inr (.inl e)) (fun e => .inr (.inr (.inr e))))
  have kA1 := (hx1.block _ (block_lt kA) (fun h => by have := hlp _ h; omega)).trans kA
  have kB1 := (hx1.block _ (block_lt kB) (fun h => by have := hlp _ h; omega)).trans kB
  have a1 := cell_of_block kA1 1
  have b2 := cell_of_block kB1 2
  have b3 := cell_of_block kB1 3
  have hr1 : RefS w1 rs N rv lv F := by
    refine HI.out.r.ext hx1 ?_ ?_
    · rintro (e | e)
      · exact HI.out.ab e.symm
      · exact HI.out.pr rs e rfl
    · rintro g hg (e | e)
      · exact HI.out.rp g hg e
      · exact HI.out.vv g e hg
  have HR1 := hide hr1
  have HX1 := hide hx1
  have HP1 := hide hp1
  have HPV := hide hpv
  have HLP := hide hlp
  have HLR := hide hlr
  clear hx1 hp1 hpv hr1 kA kB kA1 kB1 hlp hlr
  go_wp2_with fail
  refine (ref_declare s a HR1.out hs).mono ?_
  rintro e w2 ⟨rfl, hx2, rv', hr2, hrv⟩
  have HX2 := hide hx2
  have HR2 := hide hr2
  have HRV := hide hrv
  clear hx2 hr2 hrv a1 b2 b3
  go_wp2_with (go_at_call 80; refine (num_any _ _).mono ?_; rintro e w' ⟨rfl, rfl⟩)
  go_ret
  exact pair_done HI.out HXW.out HLT.out HX1.out HP1.out HPV.out HX2.out HR2.out HRV.out

set_option maxRecDepth 100000 in
set_option maxHeartbeats 400000 in
theorem reads_tidy {w : World} {ps rs : Nat} {N : List Nm} {pv rv : Value} {xs : PX} {lv : Value} {F : Int} (on : Int) (s : ByteArray) (a : Int) (h : PairI w ps rs N pv rv xs lv F) (hs : s.size ≤ maxLen) (hne : 0 < N.length) (hhd : HdLaid w) (hten : TenLaid w) :
    Calls Tryz.prog 53 #[.agg #[.pointer (some ⟨ps, 0, none⟩), .pointer (some ⟨rs, 0, none⟩)], .agg #[.int .i64 2, .int .i64 on, .string s, .int .i64 a]] w (PairPost w ps rs N pv rv xs lv F) := by
  have H := hide h
  have HHD := hide hhd
  have HTEN := hide hten
  clear h hhd hten
  go_enter Tryz.func53, Tryz.ntmps53
  go_wp2_with fail
  obtain ⟨W, hW⟩ : ∃ W, (w.alloc (.cells #[.pointer (some ⟨ps, 0, none⟩), .pointer (some ⟨rs, 0, none⟩)] 57)).alloc (.cells #[.int .i64 2, .int .i64 on, .string s, .int .i64 a] 66) = W := ⟨_, rfl⟩
  have hxW : Ext (fun _ => False) w W := by rw [← hW]; exact ((Ext.refl _ w).alloc _).alloc _
  have kA : W.heap[w.heap.size]? = some (.cells #[.pointer (some ⟨ps, 0, none⟩), .pointer (some ⟨rs, 0, none⟩)] 57) := by rw [← hW, heap_alloc_old _ _ (by simp)]; exact heap_alloc_new w _
  have kB : W.heap[w.heap.size + 1]? = some (.cells #[.int .i64 2, .int .i64 on, .string s, .int .i64 a] 66) := by rw [← hW]; exact heap_alloc2_new w _ _
  rw [hW]
  clear hW
  have hI := H.out.ext hxW (fun _ _ f => f)
  have HI := hide hI
  have HXW := hide hxW
  refine (p_tidy s W hs hI.p.tab (HHD.out.ext hxW (fun f => f)) (HTEN.out.ext hxW (fun f => f))).mono ?_
  clear hI hxW
  rintro e w1 ⟨X, rfl, hX, hx1⟩
  have kA1 := (hx1.block _ (block_lt kA) (fun f => f)).trans kA
  have kB1 := (hx1.block _ (block_lt kB) (fun f => f)).trans kB
  have a1 := cell_of_block kA1 1
  have b2 := cell_of_block kB1 2
  have HX1 := hide hx1
  have HX := hide hX
  clear hx1 hX kA kB kA1 kB1
  go_wp2_with fail
  refine (ref_tidy s (HI.out.ext HX1.out (fun _ _ f => f)).r hne hs).mono ?_
  rintro e w2 ⟨Y, rfl, hY, hx2⟩
  have hXY : Y = X := bytes_ext (hY.trans HX.out.symm)
  subst hXY
  have HX2 := hide hx2
  clear hx2 hY a1 b2
  go_wp2_with (go_at_call 80; refine (num_any _ _).mono ?_; rintro e w' ⟨rfl, rfl⟩)
  go_ret
  have hx := (HXW.out.trans HX1.out).trans HX2.out
  exact ⟨rfl, hx.mono (fun _ _ f => f.elim), pv, rv, H.out.ext hx (fun _ _ f => f), fun k hk => .inl hk⟩

end Go.Proofs.YtegbdaffhpiacaaGreatDoor

/- The law: a step; which session; the book that stays empty. -/
namespace Go.Proofs.YtegbdaffhpiacaaGreatDoor
open Go.RowKit Ar

theorem PairPost.of_new {w W : World} {ps rs : Nat} {N' : List Nm} {pv rv : Value} {xs : PX} {lv : Value} {F : Int} {e : Ending} {w' : World} (hx : Ext (fun _ => False) w W) (h : PairPost W ps rs N' pv rv xs lv F e w') : PairPost w ps rs N' pv rv xs lv F e w' := by
  obtain ⟨he, h1, pv', rv', h2, h3⟩ := h
  exact ⟨he, (hx.mono (fun _ _ f => f.elim)).trans h1, pv', rv', h2, fun k hk => (h3 k hk).imp id (fun e => Nat.le_trans hx.size e)⟩

set_option maxRecDepth 100000 in
set_option maxHeartbeats 400000 in
theorem step_decl {w : World} {ps rs : Nat} {N : List Nm} {pv rv : Value} {xs : PX} {lv : Value} {F : Int} (on : Int) (s : ByteArray) (a : Int) (bk : Value) (h : PairI w ps rs N pv rv xs lv F) (hs : s.size ≤ maxLen) (hf : xs.fg = xs) :
    Calls Tryz.prog 34 #[.agg #[.pointer (some ⟨ps, 0, none⟩), .pointer (some ⟨rs, 0, none⟩)], .agg #[.int .i64 1, .int .i64 on, .string s, .int .i64 a], bk] w (PairPost w ps rs (declNames N F s a) pv rv xs lv F) := by
  have H := hide h
  clear h
  go_enter Tryz.func34, Tryz.ntmps34
  go_wp2_with fail
  obtain ⟨W, hW⟩ : ∃ W, (w.alloc (.cells #[.pointer (some ⟨ps, 0, none⟩), .pointer (some ⟨rs, 0, none⟩)] 57)).alloc (.cells #[.int .i64 1, .int .i64 on, .string s, .int .i64 a] 66) = W := ⟨_, rfl⟩
  have hxW : Ext (fun _ => False) w W := by rw [← hW]; exact ((Ext.refl _ w).alloc _).alloc _
  rw [hW]
  clear hW
  refine (reads_decl on s a (H.out.ext hxW (fun _ _ f => f)) hs hf).mono ?_
  rintro e w1 hp
  have hp1 := hp.of_new hxW
  obtain ⟨rfl, hp2⟩ := hp1
  have HP2 := hide hp2
  clear hp hp2 hxW
  go_wp2_with fail
  go_ret
  exact ⟨rfl, HP2.out⟩

set_option maxRecDepth 100000 in
set_option maxHeartbeats 400000 in
theorem step_tidy {w : World} {ps rs : Nat} {N : List Nm} {pv rv : Value} {xs : PX} {lv : Value} {F : Int} (on : Int) (s : ByteArray) (a : Int) (bk : Value) (h : PairI w ps rs N pv rv xs lv F) (hs : s.size ≤ maxLen) (hne : 0 < N.length) (hhd : HdLaid w) (hten : TenLaid w) :
    Calls Tryz.prog 34 #[.agg #[.pointer (some ⟨ps, 0, none⟩), .pointer (some ⟨rs, 0, none⟩)], .agg #[.int .i64 2, .int .i64 on, .string s, .int .i64 a], bk] w (PairPost w ps rs (N) pv rv xs lv F) := by
  have H := hide h
  clear h
  have HHD := hide hhd
  have HTEN := hide hten
  clear hhd hten
  go_enter Tryz.func34, Tryz.ntmps34
  go_wp2_with fail
  obtain ⟨W, hW⟩ : ∃ W, (w.alloc (.cells #[.pointer (some ⟨ps, 0, none⟩), .pointer (some ⟨rs, 0, none⟩)] 57)).alloc (.cells #[.int .i64 2, .int .i64 on, .string s, .int .i64 a] 66) = W := ⟨_, rfl⟩
  have hxW : Ext (fun _ => False) w W := by rw [← hW]; exact ((Ext.refl _ w).alloc _).alloc _
  rw [hW]
  clear hW
  refine (reads_tidy on s a (H.out.ext hxW (fun _ _ f => f)) hs hne (HHD.out.ext hxW (fun f => f)) (HTEN.out.ext hxW (fun f => f))).mono ?_
  rintro e w1 hp
  have hp1 := hp.of_new hxW
  obtain ⟨rfl, hp2⟩ := hp1
  have HP2 := hide hp2
  clear hp hp2 hxW
  go_wp2_with fail
  go_ret
  exact ⟨rfl, HP2.out⟩

set_option maxRecDepth 100000 in
set_option maxHeartbeats 400000 in
theorem step_none {w : World} {ps rs : Nat} {N : List Nm} {pv rv : Value} {xs : PX} {lv : Value} {F : Int} (k on : Int) (s : ByteArray) (a : Int) (bk : Value) (h : PairI w ps rs N pv rv xs lv F) (hk : k ≤ 0) :
    Calls Tryz.prog 34 #[.agg #[.pointer (some ⟨ps, 0, none⟩), .pointer (some ⟨rs, 0, none⟩)], .agg #[.int .i64 k, .int .i64 on, .string s, .int .i64 a], bk] w (PairPost w ps rs N pv rv xs lv F) := by
  have H := hide h
  have e1 : (k == 1) = false := by simp; omega
  have e2 : (k == 2) = false := by simp; omega
  have e3 : (k == 3) = false := by simp; omega
  have e4 : (k == 4) = false := by simp; omega
  have e5 : (k == 5) = false := by simp; omega
  have e6 : (k == 6) = false := by simp; omega
  have e7 : (k == 7) = false := by simp; omega
  have e8 : (k == 8) = false := by simp; omega
  have e9 : (k == 9) = false := by simp; omega
  have HX : Hid (Ext (fun _ => False) w ((w.alloc (.cells #[.pointer (some ⟨ps, 0, none⟩), .pointer (some ⟨rs, 0, none⟩)] 57)).alloc (.cells #[.int .i64 k, .int .i64 on, .string s, .int .i64 a] 66))) := ((Ext.refl _ w).alloc _).alloc _
  clear h hk
  go_enter Tryz.func34, Tryz.ntmps34
  go_wp2_with fail
  go_ret
  exact ⟨rfl, HX.out.mono (fun _ _ f => f.elim), pv, rv, H.out.ext HX.out (fun _ _ f => f), fun k hk => .inl hk⟩

set_option maxHeartbeats 400000 in
theorem looks_none {w : World} (bk : Nat) (m : Value) (n : Value) (hb : w.heap[bk]? = some (.cells #[.slice none 0 0, m, n] 64)) :
    Calls Tryz.prog 35 #[.pointer (some ⟨bk, 0, none⟩)] w fun e w' => e = .returned (.bool true) ∧ w' = w := by
  have c0 := cell_of_block hb 0
  clear hb
  go_enter Tryz.func35, Tryz.ntmps35
  go_wp2_with fail
  go_loop [3] (fun i => i = .int .i64 0) (fun _ => 0)
  case atStart => rfl
  case round =>
    subst hrel
    go_wp2_with fail
    go_ret
    exact ⟨rfl, rfl⟩

/-- Which of two things a raw number speaks of. -/
def pickOf (c : Int) : Nat := if c < 0 then ((-(c + 1)) % 2).toNat else (c % 2).toNat

theorem pickOf_two (c : Int) : pickOf c = 0 ∨ pickOf c = 1 := by
  unfold pickOf
  split <;> omega

set_option maxHeartbeats 400000 in
theorem pick_two (c : Int) (w : World) (hc : -9223372036854775808 ≤ c) (hc2 : c ≤ 9223372036854775807) :
    Calls Tryz.prog 33 #[.int .i64 c, .int .i64 2] w fun e w' => e = .returned (.int .i64 (pickOf c : Nat)) ∧ w' = w := by
  by_cases h : c < 0
  · go_enter Tryz.func33, Tryz.ntmps33
    go_wp2_with fail
    go_ret
    have e : -(c + 1).tmod 2 = (-(c + 1)) % 2 := by rw [← Int.neg_tmod, Int.tmod_eq_emod_of_nonneg (by omega)]
    refine ⟨?_, rfl⟩
    show Ending.returned (.int .i64 (-(c + 1).tmod 2)) = _
    rw [e, pickOf, if_pos h, Int.toNat_of_nonneg (by omega)]
  · go_enter Tryz.func33, Tryz.ntmps33
    go_wp2_with fail
    go_ret
    refine ⟨?_, rfl⟩
    show Ending.returned (.int .i64 (c % 2)) = _
    rw [pickOf, if_neg (by omega), Int.toNat_of_nonneg (by omega)]

end Go.Proofs.YtegbdaffhpiacaaGreatDoor

/- The law: a session of each side is begun. -/
namespace Go.Proofs.YtegbdaffhpiacaaGreatDoor
open Go.RowKit Ar

def bX : ByteArray := ⟨#[120]⟩
def bY : ByteArray := ⟨#[121]⟩
def bF : ByteArray := ⟨#[102]⟩
/-- The document's first example, as it is handed in, and in its one form. -/
def bEx : ByteArray := ⟨#[32, 40, 32, 61, 32, 32, 40, 102, 32, 120, 41, 32, 32, 121, 41]⟩
def bForm : ByteArray := ⟨#[40, 61, 32, 40, 102, 32, 120, 41, 32, 121, 41]⟩

/-- The names that a session begins with. -/
def nms3 : List Nm := [⟨bX, 0, 0⟩, ⟨bY, 0, 0⟩, ⟨bF, 1, 0⟩]

theorem decl_x : declNames [] 0 bX 0 = [⟨bX, 0, 0⟩] := by rw [declNames, if_pos (by kernel_rfl)]; rfl
theorem decl_y : declNames [⟨bX, 0, 0⟩] 0 bY 0 = [⟨bX, 0, 0⟩, ⟨bY, 0, 0⟩] := by rw [declNames, if_pos (by kernel_rfl)]; rfl
theorem decl_f : declNames [⟨bX, 0, 0⟩, ⟨bY, 0, 0⟩] 0 bF 1 = nms3 := by rw [declNames, if_pos (by kernel_rfl)]; rfl
theorem tidy_ex : tidyOut nms3 bEx = (bForm.toList, 0, 0) := by kernel_rfl

def BegunPost (w : World) (e : Ending) (w' : World) : Prop :=
  ∃ ps rs pv rv, e = .returned (.tuple #[.agg #[.pointer (some ⟨ps, 0, none⟩), .pointer (some ⟨rs, 0, none⟩)], .bool true]) ∧ Ext (fun _ => False) w w' ∧ PairI w' ps rs nms3 pv rv px0 (.slice none 0 0) 0 ∧ (∀ k, Foot ps rs pv rv k → w.heap.size ≤ k)

/-- A session that is being begun: rb: where the answer will lie; pb: where the pair lies. -/
structure Bg (w : World) (pb ps rs : Nat) (N : List Nm) (pv rv : Value) (wi : World) : Prop where
  ext : Ext (fun _ => False) w wi
  res : wi.heap[w.heap.size]? = some (.cells #[.pointer none, .pointer none] 57)
  pbk : wi.heap[pb]? = some (.cells #[.pointer (some ⟨ps, 0, none⟩), .pointer (some ⟨rs, 0, none⟩)] 57)
  pair : PairI wi ps rs N pv rv px0 (.slice none 0 0) 0
  foot : ∀ k, Foot ps rs pv rv k → w.heap.size < k ∧ ¬ k = pb

theorem bg_step {w wi w' : World} {pb ps rs : Nat} {N N' : List Nm} {pv rv : Value} {e : Ending} (h : Bg w pb ps rs N pv rv wi) (hp : PairPost wi ps rs N' pv rv px0 (.slice none 0 0) 0 e w') :
    e = .returned (.bool true) ∧ ∃ pv' rv', Bg w pb ps rs N' pv' rv' w' := by
  obtain ⟨he, hx, pv', rv', hP, hF⟩ := hp
  have s0 := h.ext.size
  have l1 := block_lt h.res
  have l2 := block_lt h.pbk
  refine ⟨he, pv', rv', h.ext.trans' hx (fun i hi f => by have := (h.foot i f).1; omega), (hx.block _ l1 (fun f => by have := (h.foot _ f).1; omega)).trans h.res, (hx.block _ l2 (fun f => (h.foot _ f).2 rfl)).trans h.pbk, hP, ?_⟩
  intro k hk
  rcases hF k hk with hf | hf
  · exact h.foot k hf
  · exact ⟨by omega, by omega⟩

theorem bg_start {w w0 w1 : World} (hx0 : Ext (fun _ => False) w w0) (hk0 : w0.heap[w.heap.size]? = some (.cells #[.pointer none, .pointer none] 57)) (hs0 : w0.heap.size = w.heap.size + 1)
    (hx1 : Ext (fun _ => False) w0 w1) (hp1 : PS w1 w0.heap.size [] (.slice none 0 0) px0) (hs1 : w1.heap.size = w0.heap.size + 1) (bk : Obj) :
    Bg w (w1.heap.size + 1) w0.heap.size w1.heap.size [] (.slice none 0 0) (.slice none 0 0) (((w1.alloc (.cells #[.slice none 0 0, .slice none 0 0, .int .i64 0, .int .i64 0] 129)).alloc (.cells #[.pointer (some ⟨w0.heap.size, 0, none⟩), .pointer (some ⟨w1.heap.size, 0, none⟩)] 57)).alloc bk) := by
  have hx : Ext (fun _ => False) w1 (((w1.alloc (.cells #[.slice none 0 0, .slice none 0 0, .int .i64 0, .int .i64 0] 129)).alloc (.cells #[.pointer (some ⟨w0.heap.size, 0, none⟩), .pointer (some ⟨w1.heap.size, 0, none⟩)] 57)).alloc bk) := (((Ext.refl _ w1).alloc _).alloc _).alloc _
  have none_own : ∀ g, (Value.slice none 0 0).ownBlock = some g → False := fun g hg => absurd hg (by simp [Value.ownBlock])
  refine ⟨(hx0.trans hx1).trans hx, ?_, ?_, ⟨hp1.ext hx (fun f => f) (fun _ _ f => f), ⟨⟨0, ?_⟩, World.ownsRow_nil _ _ _ _, fun g hg => (none_own g hg).elim, by simp, fun _ h => absurd h (by simp)⟩, by omega, fun g hg => (none_own g hg).elim, fun g hg => (none_own g hg).elim, fun g hg => (none_own g hg).elim⟩, ?_⟩
  · exact ((hx1.trans hx).block _ (by omega) (fun f => f)).trans hk0
  · rw [heap_alloc_old _ _ (by simp)]
    have e := heap_alloc_new (w1.alloc (.cells #[.slice none 0 0, .slice none 0 0, .int .i64 0, .int .i64 0] 129)) (.cells #[.pointer (some ⟨w0.heap.size, 0, none⟩), .pointer (some ⟨w1.heap.size, 0, none⟩)] 57)
    simpa using e
  · rw [heap_alloc_old _ _ (by simp; omega), heap_alloc_old _ _ (by simp)]
    exact heap_alloc_new w1 _
  · rintro k (rfl | rfl | e | e)
    · exact ⟨by omega, by omega⟩
    · exact ⟨by omega, by omega⟩
    · exact (none_own k e).elim
    · exact (none_own k e).elim

set_option maxRecDepth 100000 in
set_option maxHeartbeats 400000 in
theorem begun_any (w : World) (hhd : HdLaid w) (hten : TenLaid w) :
    Calls Tryz.prog 32 #[] w (BegunPost w) := by
  have HHD := hide hhd
  have HTEN := hide hten
  clear hhd hten
  go_enter Tryz.func32, Tryz.ntmps32
  go_wp2_with fail
  obtain ⟨w0, hw0⟩ : ∃ w0, w.alloc (.cells #[.pointer none, .pointer none] 57) = w0 := ⟨_, rfl⟩
  have HX0 : Hid (Ext (fun _ => False) w w0) := by rw [← hw0]; exact (Ext.refl _ w).alloc _
  have HK0 : Hid (w0.heap[w.heap.size]? = some (.cells #[.pointer none, .pointer none] 57)) := by rw [← hw0]; exact heap_alloc_new w _
  have HS0 : Hid (w0.heap.size = w.heap.size + 1) := by rw [← hw0]; show _ = _; simp
  rw [hw0]
  clear hw0
  refine (p_new w0).mono ?_
  rintro e w1 ⟨rfl, hx1, hp1, hs1⟩
  have hB := bg_start HX0.out HK0.out HS0.out hx1 hp1 hs1 (.cells #[.slice none 0 0, .slice none 0 0, .int .i64 0] 64)
  have HB := hide hB
  clear hx1 hp1 hs1 hB
  go_wp2_with fail
  obtain ⟨w2, hw2⟩ : ∃ w2, ((w1.alloc (.cells #[.slice none 0 0, .slice none 0 0, .int .i64 0, .int .i64 0] 129)).alloc (.cells #[.pointer (some ⟨w0.heap.size, 0, none⟩), .pointer (some ⟨w1.heap.size, 0, none⟩)] 57)).alloc (.cells #[.slice none 0 0, .slice none 0 0, .int .i64 0] 64) = w2 := ⟨_, rfl⟩
  have HB2 := hide (hw2 ▸ HB.out)
  rw [hw2]
  clear hw2 HB
  refine (step_decl 0 bX 0 _ HB2.out.pair (by decide) rfl).mono ?_
  rintro e w3 hp
  obtain ⟨rfl, pv3, rv3, hB3⟩ := bg_step HB2.out hp
  rw [decl_x] at hB3
  have c0 := cell_of_block hB3.pbk 0
  have c1 := cell_of_block hB3.pbk 1
  have HB3 := hide hB3
  clear hp hB3 HB2
  go_wp2_with fail
  clear c0 c1
  refine (step_decl 0 bY 0 _ HB3.out.pair (by decide) rfl).mono ?_
  rintro e w4 hp
  obtain ⟨rfl, pv4, rv4, hB4⟩ := bg_step HB3.out hp
  rw [decl_y] at hB4
  have c0 := cell_of_block hB4.pbk 0
  have c1 := cell_of_block hB4.pbk 1
  have HB4 := hide hB4
  clear hp hB4 HB3
  go_wp2_with fail
  clear c0 c1
  refine (step_decl 0 bF 1 _ HB4.out.pair (by decide) rfl).mono ?_
  rintro e w5 hp
  obtain ⟨rfl, pv5, rv5, hB5⟩ := bg_step HB4.out hp
  rw [decl_f] at hB5
  have c0 := cell_of_block hB5.pbk 0
  have c1 := cell_of_block hB5.pbk 1
  have HB5 := hide hB5
  clear hp hB5 HB4
  go_wp2_with fail
  clear c0 c1
  refine (p_tidy bEx w5 (by decide) HB5.out.pair.p.tab (HHD.out.ext HB5.out.ext (fun f => f)) (HTEN.out.ext HB5.out.ext (fun f => f))).mono ?_
  rintro e w6 ⟨X, rfl, hX, hx6⟩
  have hXb : X = ⟨#[40, 61, 32, 40, 102, 32, 120, 41, 32, 121, 41]⟩ := bytes_ext (hX.trans (by rw [tidy_ex]; rfl))
  subst hXb
  rw [tidy_ex]
  have k0 := (hx6.block _ (block_lt HB5.out.pbk) (fun f => f)).trans HB5.out.pbk
  have kr := (hx6.block _ (block_lt HB5.out.res) (fun f => f)).trans HB5.out.res
  have c0 := cell_of_block k0 0
  have c1 := cell_of_block k0 1
  have d0 := cell_of_block kr 0
  have d1 := cell_of_block kr 1
  have d0f := frozen_of_block kr 0
  have d1f := frozen_of_block kr 1
  have HX6 := hide hx6
  clear hX hx6 k0 kr
  go_wp2_with fail
  refine bodyPost_ret (v := .tuple #[.agg #[.pointer (some ⟨w0.heap.size, 0, none⟩), .pointer (some ⟨w1.heap.size, 0, none⟩)], .bool true]) (by simp [results, Tryz.results32, go_sem, d0, d1]) rfl ?_
  have hs5 := HB5.out.ext.size
  have hxr : Ext (fun k => k = w.heap.size) w5 ((w6.setCell ⟨w.heap.size, 0, none⟩ (.pointer (some ⟨w0.heap.size, 0, none⟩))).setCell ⟨w.heap.size, 1, none⟩ (.pointer (some ⟨w1.heap.size, 0, none⟩))) :=
    ((HX6.out.mono (T := fun k => k = w.heap.size) (fun _ _ f => f.elim)).setCell (p := ⟨w.heap.size, 0, none⟩) (fun _ => rfl) _).setCell (p := ⟨w.heap.size, 1, none⟩) (fun _ => rfl) _
  refine ⟨_, _, pv5, rv5, rfl, HB5.out.ext.trans' hxr (fun i hi e => by omega), HB5.out.pair.ext hxr (fun k hk e => by have := (HB5.out.foot k hk).1; omega), fun k hk => Nat.le_of_lt (HB5.out.foot k hk).1⟩

end Go.Proofs.YtegbdaffhpiacaaGreatDoor

/- The law: what a script asks of the sessions that it is played on; two of them beside one another. -/
namespace Go.Proofs.YtegbdaffhpiacaaGreatDoor
open Go.RowKit Ar

/-- What a step of a pair leaves: true; only blocks of its own have turned; what it owns now is its own or new. -/
def StepPost (G : Nat → Nat → World → (Nat → Prop) → Prop) (ps rs : Nat) (w : World) (F : Nat → Prop) (e : Ending) (w' : World) : Prop :=
  e = .returned (.bool true) ∧ Ext F w w' ∧ ∃ F', G ps rs w' F' ∧ ∀ k, F' k → F k ∨ w.heap.size ≤ k

/-- G: what holds of a pair (of its two blocks, in a world, with the blocks that it owns); it begins, it stays where its blocks do, it is kept by every step of a kind up to most. -/
structure Game (most : Int) (G : Nat → Nat → World → (Nat → Prop) → Prop) : Prop where
  ext : ∀ (ps rs : Nat) (w w' : World) (F S : Nat → Prop), G ps rs w F → Ext S w w' → (∀ k, F k → ¬ S k) → G ps rs w' F
  lt : ∀ (ps rs : Nat) (w : World) (F : Nat → Prop), G ps rs w F → ∀ k, F k → k < w.heap.size
  start : ∀ (w : World) (ps rs : Nat) (pv rv : Value), PairI w ps rs nms3 pv rv px0 (.slice none 0 0) 0 → G ps rs w (Foot ps rs pv rv)
  step : ∀ (w : World) (ps rs : Nat) (F : Nat → Prop) (k on : Int) (s : ByteArray) (a : Int) (bk : Value), G ps rs w F → HdLaid w → TenLaid w → k ≤ most → s.size ≤ maxLen →
    Calls Tryz.prog 34 #[.agg #[.pointer (some ⟨ps, 0, none⟩), .pointer (some ⟨rs, 0, none⟩)], .agg #[.int .i64 k, .int .i64 on, .string s, .int .i64 a], bk] w (StepPost G ps rs w F)

/-- The two pairs of a script, its list of them, its book. -/
structure Mid (W : World) (G : Nat → Nat → World → (Nat → Prop) → Prop) (lb bb p1 r1 p2 r2 : Nat) (w : World) : Prop where
  ext : Ext (fun _ => False) W w
  lst : w.heap[lb]? = some (.cells #[.pointer (some ⟨p1, 0, none⟩), .pointer (some ⟨r1, 0, none⟩), .pointer (some ⟨p2, 0, none⟩), .pointer (some ⟨r2, 0, none⟩)] 57)
  bok : w.heap[bb]? = some (.cells #[.slice none 0 0, .slice none 0 0, .int .i64 0] 64)
  two : ∃ F1 F2, G p1 r1 w F1 ∧ G p2 r2 w F2 ∧ (∀ k, F1 k → ¬ F2 k) ∧ (∀ k, F1 k → W.heap.size ≤ k ∧ ¬ k = lb ∧ ¬ k = bb) ∧ (∀ k, F2 k → W.heap.size ≤ k ∧ ¬ k = lb ∧ ¬ k = bb)

/-- A step on one of two pairs: the other stays. -/
theorem mid_next {most : Int} {G : Nat → Nat → World → (Nat → Prop) → Prop} (hG : Game most G) {W w w' : World} {lb bb p2 r2 : Nat} {F1 F2 F1' : Nat → Prop} {cl cb : Array Value} {tl tb : Nat}
    (hW : Ext (fun _ => False) W w) (hl : w.heap[lb]? = some (.cells cl tl)) (hb : w.heap[bb]? = some (.cells cb tb)) (g2 : G p2 r2 w F2) (hd : ∀ k, F1 k → ¬ F2 k)
    (h1 : ∀ k, F1 k → W.heap.size ≤ k ∧ ¬ k = lb ∧ ¬ k = bb) (hx : Ext F1 w w') (hF : ∀ k, F1' k → F1 k ∨ w.heap.size ≤ k) :
    Ext (fun _ => False) W w' ∧ w'.heap[lb]? = some (.cells cl tl) ∧ w'.heap[bb]? = some (.cells cb tb) ∧ G p2 r2 w' F2 ∧ (∀ k, F1' k → ¬ F2 k) ∧ (∀ k, F1' k → W.heap.size ≤ k ∧ ¬ k = lb ∧ ¬ k = bb) := by
  have s0 := hW.size
  have l1 := block_lt hl
  have l2 := block_lt hb
  refine ⟨hW.trans' hx (fun i hi f => by have := (h1 i f).1; omega), (hx.block lb l1 (fun f => (h1 lb f).2.1 rfl)).trans hl, (hx.block bb l2 (fun f => (h1 bb f).2.2 rfl)).trans hb, hG.ext p2 r2 w w' F2 F1 g2 hx (fun k h2 h => hd k h h2), ?_, ?_⟩
  · intro k hk h2
    rcases hF k hk with h | h
    · exact hd k h h2
    · have := hG.lt p2 r2 w F2 g2 k h2
      omega
  · intro k hk
    rcases hF k hk with h | h
    · exact h1 k h
    · exact ⟨by omega, by omega, by omega⟩

/-- The step on the first pair. -/
theorem mid_one {most : Int} {G : Nat → Nat → World → (Nat → Prop) → Prop} (hG : Game most G) {W w w' : World} {lb bb p1 r1 p2 r2 : Nat} {F1 F2 F1' : Nat → Prop} (hW : Ext (fun _ => False) W w)
    (hl : w.heap[lb]? = some (.cells #[.pointer (some ⟨p1, 0, none⟩), .pointer (some ⟨r1, 0, none⟩), .pointer (some ⟨p2, 0, none⟩), .pointer (some ⟨r2, 0, none⟩)] 57))
    (hb : w.heap[bb]? = some (.cells #[.slice none 0 0, .slice none 0 0, .int .i64 0] 64)) (g2 : G p2 r2 w F2) (hd : ∀ k, F1 k → ¬ F2 k)
    (h1 : ∀ k, F1 k → W.heap.size ≤ k ∧ ¬ k = lb ∧ ¬ k = bb) (h2 : ∀ k, F2 k → W.heap.size ≤ k ∧ ¬ k = lb ∧ ¬ k = bb) (hx : Ext F1 w w') (g1 : G p1 r1 w' F1') (hF : ∀ k, F1' k → F1 k ∨ w.heap.size ≤ k) : Mid W G lb bb p1 r1 p2 r2 w' := by
  obtain ⟨a, b, c, d, e, f⟩ := mid_next hG hW hl hb g2 hd h1 hx hF
  exact ⟨a, b, c, F1', F2, g1, d, e, f, h2⟩

/-- The step on the second pair. -/
theorem mid_two {most : Int} {G : Nat → Nat → World → (Nat → Prop) → Prop} (hG : Game most G) {W w w' : World} {lb bb p1 r1 p2 r2 : Nat} {F1 F2 F2' : Nat → Prop} (hW : Ext (fun _ => False) W w)
    (hl : w.heap[lb]? = some (.cells #[.pointer (some ⟨p1, 0, none⟩), .pointer (some ⟨r1, 0, none⟩), .pointer (some ⟨p2, 0, none⟩), .pointer (some ⟨r2, 0, none⟩)] 57))
    (hb : w.heap[bb]? = some (.cells #[.slice none 0 0, .slice none 0 0, .int .i64 0] 64)) (g1 : G p1 r1 w F1) (hd : ∀ k, F1 k → ¬ F2 k)
    (h1 : ∀ k, F1 k → W.heap.size ≤ k ∧ ¬ k = lb ∧ ¬ k = bb) (h2 : ∀ k, F2 k → W.heap.size ≤ k ∧ ¬ k = lb ∧ ¬ k = bb) (hx : Ext F2 w w') (g2 : G p2 r2 w' F2') (hF : ∀ k, F2' k → F2 k ∨ w.heap.size ≤ k) : Mid W G lb bb p1 r1 p2 r2 w' := by
  obtain ⟨a, b, c, d, e, f⟩ := mid_next hG hW hl hb g1 (fun k h h' => hd k h' h) h2 hx hF
  exact ⟨a, b, c, F1, F2', d, g2, fun k h h' => e k h' h, h1, f⟩

/-- A script as it lies in memory: four cells a step. -/
def Script (W : World) (sa : Option Addr) (n : Nat) : Prop :=
  ∀ i, i < n → ∃ (b off : Nat) (k on : Int) (s : ByteArray) (a : Int), sa = some ⟨b, off, none⟩ ∧ b < W.heap.size ∧ s.size ≤ maxLen ∧ -9223372036854775808 ≤ on ∧ on ≤ 9223372036854775807 ∧
    W.cell? ⟨b, off + i * 4, none⟩ = some (.int .i64 k) ∧ W.cell? ⟨b, off + i * 4 + 1, none⟩ = some (.int .i64 on) ∧ W.cell? ⟨b, off + i * 4 + 2, none⟩ = some (.string s) ∧ W.cell? ⟨b, off + i * 4 + 3, none⟩ = some (.int .i64 a)

/-- What holds of a pair while Declare and Tidy alone are called. -/
def ReadsG (ps rs : Nat) (w : World) (F : Nat → Prop) : Prop := ∃ N pv rv, 0 < N.length ∧ PairI w ps rs N pv rv px0 (.slice none 0 0) 0 ∧ F = Foot ps rs pv rv

theorem declNames_pos {N : List Nm} {F : Int} {s : ByteArray} {a : Int} (h : 0 < N.length) : 0 < (declNames N F s a).length := by
  unfold declNames
  split
  · simp
  · exact h

theorem StepPost.of_pair {w : World} {ps rs : Nat} {N' : List Nm} {pv rv : Value} {e : Ending} {w' : World} (h : PairPost w ps rs N' pv rv px0 (.slice none 0 0) 0 e w') (hN : 0 < N'.length) : StepPost ReadsG ps rs w (Foot ps rs pv rv) e w' := by
  obtain ⟨h1, h2, pv', rv', h3, h4⟩ := h
  exact ⟨h1, h2, Foot ps rs pv' rv', ⟨N', pv', rv', hN, h3, rfl⟩, h4⟩

theorem reads_game : Game 2 ReadsG where
  ext := by
    rintro ps rs w w' F S ⟨N, pv, rv, hN, hP, rfl⟩ hx hS
    exact ⟨N, pv, rv, hN, hP.ext hx hS, rfl⟩
  lt := by
    rintro ps rs w F ⟨N, pv, rv, hN, hP, rfl⟩
    exact hP.lt
  start := fun w ps rs pv rv h => ⟨nms3, pv, rv, by decide, h, rfl⟩
  step := by
    rintro w ps rs F k on s a bk ⟨N, pv, rv, hN, hP, rfl⟩ hhd hten hk hs
    by_cases h1 : k = 1
    · subst h1
      exact (step_decl on s a bk hP hs rfl).mono fun e w' h => StepPost.of_pair h (declNames_pos hN)
    by_cases h2 : k = 2
    · subst h2
      exact (step_tidy on s a bk hP hs hN hhd hten).mono fun e w' h => StepPost.of_pair h hN
    · exact (step_none k on s a bk hP (by omega)).mono fun e w' h => StepPost.of_pair h hN

end Go.Proofs.YtegbdaffhpiacaaGreatDoor

/- The law: a script is played. -/
namespace Go.Proofs.YtegbdaffhpiacaaGreatDoor
open Go.RowKit Ar

theorem mid_start {most : Int} {G : Nat → Nat → World → (Nat → Prop) → Prop} (hG : Game most G) {W w1 v1 w2 : World} {p1 r1 p2 r2 : Nat} {pv1 rv1 pv2 rv2 : Value} (hx1 : Ext (fun _ => False) W w1) (hP1 : PairI w1 p1 r1 nms3 pv1 rv1 px0 (.slice none 0 0) 0) (hF1 : ∀ k, Foot p1 r1 pv1 rv1 k → W.heap.size ≤ k)
    (hv1 : Ext (fun _ => False) w1 v1) (hx2 : Ext (fun _ => False) v1 w2) (hP2 : PairI w2 p2 r2 nms3 pv2 rv2 px0 (.slice none 0 0) 0) (hF2 : ∀ k, Foot p2 r2 pv2 rv2 k → v1.heap.size ≤ k) :
    Mid W G (w2.heap.size + 1) (w2.heap.size + 1 + 1) p1 r1 p2 r2 (((w2.alloc (.cells #[.pointer (some ⟨p2, 0, none⟩), .pointer (some ⟨r2, 0, none⟩)] 57)).alloc (.cells #[.pointer (some ⟨p1, 0, none⟩), .pointer (some ⟨r1, 0, none⟩), .pointer (some ⟨p2, 0, none⟩), .pointer (some ⟨r2, 0, none⟩)] 57)).alloc (.cells #[.slice none 0 0, .slice none 0 0, .int .i64 0] 64)) := by
  have hx3 : Ext (fun _ => False) w2 (((w2.alloc (.cells #[.pointer (some ⟨p2, 0, none⟩), .pointer (some ⟨r2, 0, none⟩)] 57)).alloc (.cells #[.pointer (some ⟨p1, 0, none⟩), .pointer (some ⟨r1, 0, none⟩), .pointer (some ⟨p2, 0, none⟩), .pointer (some ⟨r2, 0, none⟩)] 57)).alloc (.cells #[.slice none 0 0, .slice none 0 0, .int .i64 0] 64)) := (((Ext.refl _ w2).alloc _).alloc _).alloc _
  have s1 := hx1.size
  have s2 := hv1.size
  have s3 := hx2.size
  refine ⟨((hx1.trans hv1).trans hx2).trans hx3, ?_, ?_, Foot p1 r1 pv1 rv1, Foot p2 r2 pv2 rv2, hG.start _ _ _ _ _ (hP1.ext ((hv1.trans hx2).trans hx3) (fun _ _ f => f)), hG.start _ _ _ _ _ (hP2.ext hx3 (fun _ _ f => f)), ?_, ?_, ?_⟩
  · rw [heap_alloc_old _ _ (by simp)]
    have e := heap_alloc_new (w2.alloc (.cells #[.pointer (some ⟨p2, 0, none⟩), .pointer (some ⟨r2, 0, none⟩)] 57)) (.cells #[.pointer (some ⟨p1, 0, none⟩), .pointer (some ⟨r1, 0, none⟩), .pointer (some ⟨p2, 0, none⟩), .pointer (some ⟨r2, 0, none⟩)] 57)
    simpa using e
  · have e := heap_alloc_new ((w2.alloc (.cells #[.pointer (some ⟨p2, 0, none⟩), .pointer (some ⟨r2, 0, none⟩)] 57)).alloc (.cells #[.pointer (some ⟨p1, 0, none⟩), .pointer (some ⟨r1, 0, none⟩), .pointer (some ⟨p2, 0, none⟩), .pointer (some ⟨r2, 0, none⟩)] 57)) (.cells #[.slice none 0 0, .slice none 0 0, .int .i64 0] 64)
    simpa using e
  · intro k h1 h2
    have := hP1.lt k h1
    have := hF2 k h2
    omega
  · intro k h1
    have := hP1.lt k h1
    have := hF1 k h1
    omega
  · intro k h2
    have := hP2.lt k h2
    have := hF2 k h2
    omega

set_option maxRecDepth 100000 in
set_option maxHeartbeats 1000000 in
theorem plays_any {most : Int} {G : Nat → Nat → World → (Nat → Prop) → Prop} (hG : Game most G) (hm : most < 7) (W : World) (sa : Option Addr) (n cap : Nat) (hn : n ≤ maxLen) (hS : Script W sa n) (hhd : HdLaid W) (hten : TenLaid W) :
    Calls Tryz.prog 12 #[.slice sa n cap, .int .i64 most] W fun e w' => e = .returned (.bool true) ∧ Ext (fun _ => False) W w' := by
  have HHD := hide hhd
  have HTEN := hide hten
  have HS := hide hS
  have HG := hide hG
  clear hhd hten hS hG
  go_enter Tryz.func12, Tryz.ntmps12
  go_wp2_with fail
  refine (begun_any W HHD.out HTEN.out).mono ?_
  rintro e w1 ⟨p1, r1, pv1, rv1, rfl, hx1, hP1, hF1⟩
  have HX1 := hide hx1
  have HP1 := hide hP1
  have HF1 := hide hF1
  clear hx1 hP1 hF1
  go_wp2_with fail
  obtain ⟨v1, hv1⟩ : ∃ v1, w1.alloc (.cells #[.pointer (some ⟨p1, 0, none⟩), .pointer (some ⟨r1, 0, none⟩)] 57) = v1 := ⟨_, rfl⟩
  have HV1 : Hid (Ext (fun _ => False) w1 v1) := by rw [← hv1]; exact (Ext.refl _ w1).alloc _
  have HK1 : Hid (v1.heap[w1.heap.size]? = some (.cells #[.pointer (some ⟨p1, 0, none⟩), .pointer (some ⟨r1, 0, none⟩)] 57)) := by rw [← hv1]; exact heap_alloc_new w1 _
  rw [hv1]
  clear hv1
  refine (begun_any v1 (HHD.out.ext (HX1.out.trans HV1.out) (fun f => f)) (HTEN.out.ext (HX1.out.trans HV1.out) (fun f => f))).mono ?_
  rintro e w2 ⟨p2, r2, pv2, rv2, rfl, hx2, hP2, hF2⟩
  have k1 := (hx2.block _ (block_lt HK1.out) (fun f => f)).trans HK1.out
  have c10 := cell_of_block k1 0
  have c11 := cell_of_block k1 1
  have hlt := block_lt k1
  have HX2 := hide hx2
  have HP2 := hide hP2
  have HF2 := hide hF2
  clear hx2 hP2 hF2 k1
  go_wp2_with fail
  have hM := mid_start HG.out HX1.out HP1.out HF1.out HV1.out HX2.out HP2.out HF2.out
  have HM := hide hM
  clear hM c10 c11 hlt HX1 HP1 HF1 HV1 HX2 HP2 HF2 HK1
  go_loopw [11] (fun i wr => ∃ k : Nat, k ≤ n ∧ i = .int .i64 k ∧ Mid W G (w2.heap.size + 1) (w2.heap.size + 1 + 1) p1 r1 p2 r2 wr) (fun i _ => n - (intOf i).toNat)
  case atStart => exact ⟨0, Nat.zero_le _, rfl, HM.out⟩
  case round =>
    clear HM
    obtain ⟨k, hk, rfl, hM⟩ := hrel
    have HM := hide hM
    clear hM
    have hmx : n ≤ 9223372036854775807 := by unfold maxLen at hn; omega
    by_cases hlt : k < n
    · obtain ⟨b, off, kd, on, s, a, rfl, hb, hs, ho1, ho2, c0, c1, c2, c3⟩ := HS.out k hlt
      have hx := HM.out.ext
      rw [← hx.cell (p := ⟨b, off + k * 4, none⟩) hb (fun f => f)] at c0
      rw [← hx.cell (p := ⟨b, off + k * 4 + 1, none⟩) hb (fun f => f)] at c1
      rw [← hx.cell (p := ⟨b, off + k * 4 + 2, none⟩) hb (fun f => f)] at c2
      rw [← hx.cell (p := ⟨b, off + k * 4 + 3, none⟩) hb (fun f => f)] at c3
      have HOn : Hid (-9223372036854775808 ≤ on ∧ on ≤ 9223372036854775807) := ⟨ho1, ho2⟩
      have HSZ := hide hs
      clear hx ho1 ho2 hs
      by_cases hmost : most < kd
      · go_wp2_with fail
        exact ⟨⟨k + 1, by omega, by go_num, HM.out⟩, by simp [intOf]; omega⟩
      · have l0 := cell_of_block HM.out.lst 0
        have l1 := cell_of_block HM.out.lst 1
        have l2 := cell_of_block HM.out.lst 2
        have l3 := cell_of_block HM.out.lst 3
        have HK : Hid (kd ≤ most) := by show _ ≤ _; omega
        have hmy := HM.out
        obtain ⟨hxW, hlst, hbok, F1, F2, g1, g2, hd, h1, h2⟩ := hmy
        have hhdr := HHD.out.ext hxW (fun f => f)
        have htenr := HTEN.out.ext hxW (fun f => f)
        have HTWO : Hid (G p1 r1 wr F1 ∧ G p2 r2 wr F2 ∧ (∀ k, F1 k → ¬ F2 k) ∧ (∀ k, F1 k → W.heap.size ≤ k ∧ ¬ k = w2.heap.size + 1 ∧ ¬ k = w2.heap.size + 1 + 1) ∧ (∀ k, F2 k → W.heap.size ≤ k ∧ ¬ k = w2.heap.size + 1 ∧ ¬ k = w2.heap.size + 1 + 1)) := ⟨g1, g2, hd, h1, h2⟩
        have HLAID : Hid (HdLaid wr ∧ TenLaid wr) := ⟨hhdr, htenr⟩
        clear hxW hlst hbok g1 g2 hd h1 h2 hhdr htenr
        have HPK := hide (fun w => pick_two on w HOn.out.1 HOn.out.2)
        rcases pickOf_two on with hp | hp
        · rw [hp] at HPK
          clear hp
          go_wp2_with fail
          go_region_law (go_simp; go_wp2_with (first | (go_at_call 33; refine (HPK.out _).mono ?_; rintro e w' ⟨rfl, rfl⟩) | (go_at_call 34; refine (HG.out.step _ p1 r1 F1 kd on s a _ (HG.out.ext _ _ _ _ _ (fun _ => False) HTWO.out.1 ((Ext.refl _ wr).drew) (fun _ _ f => f)) (HLAID.out.1.ext ((Ext.refl (fun _ => False) wr).drew) (fun f => f)) (HLAID.out.2.ext ((Ext.refl (fun _ => False) wr).drew) (fun f => f)) HK.out HSZ.out).mono ?_; rintro e w' ⟨rfl, hx, F1', g1', hF'⟩)))
          all_goals
            have hN := mid_one HG.out (w := wr.drew) HM.out.ext.drew HM.out.lst HM.out.bok (HG.out.ext _ _ _ _ _ (fun _ => False) HTWO.out.2.1 ((Ext.refl _ wr).drew) (fun _ _ f => f)) HTWO.out.2.2.1 HTWO.out.2.2.2.1 HTWO.out.2.2.2.2 hx g1' hF'
            have HN := hide hN
            clear hx g1' hF' hN l0 l1 l2 l3 c0 c1 c2 c3 HM HTWO HLAID HPK
            go_wp2_with (go_at_call 35; refine (looks_none (w2.heap.size + 1 + 1) _ _ HN.out.bok).mono ?_; rintro e w'' ⟨rfl, rfl⟩)
            exact ⟨⟨k + 1, by omega, by go_num, HN.out⟩, by simp [intOf]; omega⟩
        · rw [hp] at HPK
          clear hp
          go_wp2_with fail
          go_region_law (go_simp; go_wp2_with (first | (go_at_call 33; refine (HPK.out _).mono ?_; rintro e w' ⟨rfl, rfl⟩) | (go_at_call 34; refine (HG.out.step _ p2 r2 F2 kd on s a _ (HG.out.ext _ _ _ _ _ (fun _ => False) HTWO.out.2.1 ((Ext.refl _ wr).drew) (fun _ _ f => f)) (HLAID.out.1.ext ((Ext.refl (fun _ => False) wr).drew) (fun f => f)) (HLAID.out.2.ext ((Ext.refl (fun _ => False) wr).drew) (fun f => f)) HK.out HSZ.out).mono ?_; rintro e w' ⟨rfl, hx, F1', g1', hF'⟩)))
          all_goals
            have hN := mid_two HG.out (w := wr.drew) HM.out.ext.drew HM.out.lst HM.out.bok (HG.out.ext _ _ _ _ _ (fun _ => False) HTWO.out.1 ((Ext.refl _ wr).drew) (fun _ _ f => f)) HTWO.out.2.2.1 HTWO.out.2.2.2.1 HTWO.out.2.2.2.2 hx g1' hF'
            have HN := hide hN
            clear hx g1' hF' hN l0 l1 l2 l3 c0 c1 c2 c3 HM HTWO HLAID HPK
            go_wp2_with (go_at_call 35; refine (looks_none (w2.heap.size + 1 + 1) _ _ HN.out.bok).mono ?_; rintro e w'' ⟨rfl, rfl⟩)
            exact ⟨⟨k + 1, by omega, by go_num, HN.out⟩, by simp [intOf]; omega⟩
    · go_wp2_with fail
      go_ret
      exact ⟨rfl, HM.out.ext⟩

end Go.Proofs.YtegbdaffhpiacaaGreatDoor
