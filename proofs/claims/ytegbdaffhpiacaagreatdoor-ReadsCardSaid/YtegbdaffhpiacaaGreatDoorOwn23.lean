/- The document's own answer: a session in memory, and Declare; The document's own answer: Tidy. -/
import Derived.Test.YtegbdaffhpiacaaGreatDoorOwn17
import Derived.Test.YtegbdaffhpiacaaGreatDoorOwn03
import Derived.Deep.AppendLies
import Derived.Deep.RegionLaw
/- The document's own answer: a session in memory, and Declare. -/
namespace Go.Proofs.YtegbdaffhpiacaaGreatDoor
open Go.RowKit Ar

def nmCells (N : List Nm) : List Value := N.flatMap (fun x => [.string x.name, .int .i64 x.ar, .int .i64 x.fr])

theorem nmCells_snoc (N : List Nm) (x : Nm) : nmCells (N ++ [x]) = nmCells N ++ [.string x.name, .int .i64 x.ar, .int .i64 x.fr] := by simp [nmCells]

theorem nmCells_len (N : List Nm) : (nmCells N).length = N.length * 3 := by
  induction N with
  | nil => rfl
  | cons a b ih => simp only [nmCells, List.flatMap_cons, List.length_append] at ih ⊢; simp at ih ⊢; omega

theorem nmCells_get {N : List Nm} {i : Nat} {x : Nm} (h : N[i]? = some x) : (nmCells N)[i * 3]? = some (.string x.name) ∧ (nmCells N)[i * 3 + 1]? = some (.int .i64 x.ar) := by
  obtain ⟨hi, hx⟩ := List.getElem?_eq_some_iff.1 h
  have e : N.take i ++ x :: N.drop (i + 1) = N := by rw [← hx, List.getElem_cons_drop, List.take_append_drop]
  have e2 : nmCells (N.take i ++ x :: N.drop (i + 1)) = nmCells (N.take i) ++ ([.string x.name, .int .i64 x.ar, .int .i64 x.fr] ++ nmCells (N.drop (i + 1))) := by
    simp [nmCells]
  rw [e] at e2
  have hl : (nmCells (N.take i)).length = i * 3 := by rw [nmCells_len, List.length_take]; congr 1; omega
  rw [e2]
  constructor
  · rw [List.getElem?_append_right (by rw [hl]; omega), hl]
    have : i * 3 - i * 3 = 0 := by omega
    rw [this]; rfl
  · rw [List.getElem?_append_right (by rw [hl]; omega), hl]
    have : i * 3 + 1 - i * 3 = 1 := by omega
    rw [this]; rfl

/-- A session of the document's own answer. -/
structure RefS (w : World) (sb : Nat) (N : List Nm) (nv lv : Value) (F : Int) : Prop where
  blk : ∃ ans : Int, w.heap[sb]? = some (.cells #[nv, lv, .int .i64 F, .int .i64 ans] 129)
  own : w.ownsRow 0 231 3 nv N.length (nmCells N)
  sep : ∀ g, nv.ownBlock = some g → ¬ g = sb
  few : N.length ≤ 20
  ok : ∀ x ∈ N, 0 ≤ x.ar ∧ x.ar ≤ 3

theorem RefS.ext {S : Nat → Prop} {w w' : World} {sb : Nat} {N : List Nm} {nv lv : Value} {F : Int} (h : RefS w sb N nv lv F) (hx : Ext S w w') (h1 : ¬ S sb) (h2 : ∀ g, nv.ownBlock = some g → ¬ S g) : RefS w' sb N nv lv F := by
  obtain ⟨ans, hb⟩ := h.blk
  exact ⟨⟨ans, (hx.block _ (block_lt hb) h1).trans hb⟩, own_ext h.own hx h2, h.sep, h.few, h.ok⟩

theorem RefS.shape {w : World} {sb : Nat} {N : List Nm} {nv lv : Value} {F : Int} (h : RefS w sb N nv lv F) : ∃ a cap, nv = .slice a N.length cap ∧ (0 < N.length → ∃ g, a = some ⟨g, 0, none⟩ ∧ Names w g N ∧ g < w.heap.size) := by
  have hown := h.own
  rcases hown.2 with ⟨e, e0⟩ | ⟨g, cap, cur, hv, hg, hh, hr⟩
  · exact ⟨none, 0, by rw [e, e0], fun h0 => by omega⟩
  · refine ⟨some ⟨g, 0, none⟩, cap, hv, fun _ => ⟨g, rfl, ?_, block_lt hh⟩⟩
    intro i x hx
    have hi := (List.getElem?_eq_some_iff.1 hx).1
    have hm : x ∈ N := List.mem_of_getElem? hx
    have hc : ∀ j, j < N.length * 3 → w.cell? ⟨g, j, none⟩ = (nmCells N)[j]? := by
      intro j hj
      rw [hv] at hown
      exact hown.cellAt j hj
    rw [hc _ (by omega), hc _ (by omega)]
    exact ⟨(nmCells_get hx).1, (nmCells_get hx).2, h.ok x hm⟩

theorem info101 : (Tryz.prog.info? 231).map (fun i => (i.zero, i.size, i.bytes)) = some (some (.agg #[.string ByteArray.empty, .int .i64 0, .int .i64 0]), 3, 32) := by kernel_rfl

def DeclPost (w : World) (sb : Nat) (N : List Nm) (nv lv : Value) (F : Int) (s : ByteArray) (a : Int) (e : Ending) (w' : World) : Prop :=
  e = .returned (.int .i64 (declCode N s.toList a)) ∧ Ext (fun k => k = sb ∨ nv.ownBlock = some k) w w' ∧ ∃ nv', RefS w' sb (declNames N F s a) nv' lv F ∧ (∀ k, nv'.ownBlock = some k → nv.ownBlock = some k ∨ w.heap.size ≤ k)

theorem decl_same {w : World} {sb : Nat} {N : List Nm} {nv lv : Value} {F : Int} {s : ByteArray} {a c : Int} (h : RefS w sb N nv lv F) (hc : declCode N s.toList a = c) (h0 : ¬ c = 0) : DeclPost w sb N nv lv F s a (.returned (.int .i64 c)) w := by
  refine ⟨by rw [hc], Ext.refl _ _, nv, ?_, fun k hk => Or.inl hk⟩
  rw [declNames, if_neg (by rw [hc]; exact h0)]
  exact h

theorem decl_new {w w0 w1 W : World} {sb g cap' : Nat} {N : List Nm} {nv lv : Value} {F : Int} {s : ByteArray} {a : Int} (h : RefS w sb N nv lv F) (hc : declCode N s.toList a = 0) (ha0 : 0 ≤ a) (ha3 : a ≤ 3) (hfew : N.length < 20)
    (h0 : Ext (fun _ => False) w w0) (hgrow : w0.grownBy w1 nv.ownBlock) (hown1 : w1.ownsRow 0 231 3 (.slice (some ⟨g, 0, none⟩) (N.length + 1) cap') (N.length + 1) (nmCells N ++ [.string s, .int .i64 a, .int .i64 F]))
    (hat : nv.ownBlock = some g ∨ g = w.heap.size + 1) (hW : Ext (· = sb) w1 W) (kW : W.heap[sb]? = some (.cells #[.slice (some ⟨g, 0, none⟩) (N.length + 1) cap', lv, .int .i64 F, .int .i64 0] 129)) :
    DeclPost w sb N nv lv F s a (.returned (.int .i64 0)) W := by
  obtain ⟨ans, hb⟩ := h.blk
  have hsb := block_lt hb
  have hgs : ¬ g = sb := by
    rcases hat with e | e
    · exact h.sep g e
    · omega
  have h1 : Ext (fun k => nv.ownBlock = some k) w w1 := (h0.mono (fun _ _ f => f.elim)).grown hgrow (fun k hk _ => hk)
  refine ⟨by rw [hc], ?_, .slice (some ⟨g, 0, none⟩) (N.length + 1) cap', ?_, ?_⟩
  · exact (h1.mono (fun k _ hk => Or.inr hk)).trans' hW (fun i _ e => Or.inl e)
  · rw [declNames, if_pos hc]
    refine ⟨⟨0, kW⟩, ?_, ?_, ?_, ?_⟩
    · rw [nmCells_snoc, List.length_append]
      exact own_ext hown1 hW (fun k hk e => by simp [Value.ownBlock] at hk; omega)
    · intro k hk
      simp [Value.ownBlock] at hk
      omega
    · simp; omega
    · intro x hx
      rcases List.mem_append.1 hx with hx | hx
      · exact h.ok x hx
      · simp at hx; subst hx; exact ⟨ha0, ha3⟩
  · intro k hk
    simp [Value.ownBlock] at hk
    subst hk
    rcases hat with e | e
    · exact Or.inl e
    · exact Or.inr (by omega)

set_option maxRecDepth 100000 in
set_option maxHeartbeats 400000 in
theorem ref_declare {w : World} {sb : Nat} {N : List Nm} {nv lv : Value} {F : Int} (s : ByteArray) (a : Int) (h : RefS w sb N nv lv F) (hs : s.size ≤ maxLen) :
    Calls Tryz.prog 79 #[.pointer (some ⟨sb, 0, none⟩), .string s, .int .i64 a] w (DeclPost w sb N nv lv F s a) := by
  obtain ⟨ar, cap, hnv, hsh⟩ := h.shape
  obtain ⟨ans, hb⟩ := h.blk
  subst hnv
  have c0 := cell_of_block hb 0
  have f0 := frozen_of_block hb 0
  have c2 := cell_of_block hb 2
  have c3 := cell_of_block hb 3
  have f3 := frozen_of_block hb 3
  have hfew := h.few
  have H := hide h
  have HB := hide hb
  have HSH := hide hsh
  clear h hb hsh
  cases hn : isName s.toList with
  | false =>
    have HC : Hid (declCode N s.toList a = 3) := by show _ = _; rw [declCode, if_pos hn]
    go_enter Tryz.func79, Tryz.ntmps79
    go_wp2_with (go_at_call 118; refine (isName_any s _ hs).mono ?_; rintro e w' ⟨rfl, hw⟩; rw [hw]; clear hw w')
    go_ret
    exact decl_same H.out HC.out (by decide)
  | true =>
    by_cases hlo : a < 0
    · have HC : Hid (declCode N s.toList a = 4) := by show _ = _; rw [declCode, if_neg (by rw [hn]; decide), if_pos (Or.inl hlo)]
      go_enter Tryz.func79, Tryz.ntmps79
      go_wp2_with (go_at_call 118; refine (isName_any s _ hs).mono ?_; rintro e w' ⟨rfl, hw⟩; rw [hw]; clear hw w')
      go_ret
      exact decl_same H.out HC.out (by decide)
    by_cases hhi : 3 < a
    · have HC : Hid (declCode N s.toList a = 4) := by show _ = _; rw [declCode, if_neg (by rw [hn]; decide), if_pos (Or.inr hhi)]
      go_enter Tryz.func79, Tryz.ntmps79
      go_wp2_with (go_at_call 118; refine (isName_any s _ hs).mono ?_; rintro e w' ⟨rfl, hw⟩; rw [hw]; clear hw w')
      go_ret
      exact decl_same H.out HC.out (by decide)
    have HC0 : Hid (declCode N s.toList a = if (arOf N s.toList).isSome = true then 7 else if 20 ≤ N.length then 8 else 0) := by
      show _ = _
      rw [declCode, if_neg (by rw [hn]; decide), if_neg (by omega)]
    obtain ⟨i0, hi, hz0, hz1, hz2⟩ := info_parts info101
    have HI : Hid (Tryz.prog.info? 231 = some i0 ∧ i0.zero = some (.agg #[.string ByteArray.empty, .int .i64 0, .int .i64 0]) ∧ i0.size = 3 ∧ i0.bytes = 32) := ⟨hi, hz0, hz1, hz2⟩
    clear hi hz0 hz1 hz2
    go_enter Tryz.func79, Tryz.ntmps79
    go_wp2_with (go_at_call 118; refine (isName_any s _ hs).mono ?_; rintro e w' ⟨rfl, hw⟩; rw [hw]; clear hw w')
    go_loop [8] (fun i => ∃ k : Nat, k ≤ N.length ∧ i = .int .i64 k ∧ (N.take k).find? (fun x => x.name.toList == s.toList) = none) (fun i => N.length - (intOf i).toNat)
    case atStart => exact ⟨0, Nat.zero_le _, rfl, rfl⟩
    case round =>
      obtain ⟨k, hk, rfl, ha⟩ := hrel
      have HA := hide ha
      clear ha
      by_cases hlt : k < N.length
      · obtain ⟨x, hx⟩ : ∃ x, N[k]? = some x := ⟨_, List.getElem?_eq_getElem hlt⟩
        obtain ⟨g, rfl, hnames, hgl⟩ := HSH.out (by omega)
        obtain ⟨e1, e2, e3, e4⟩ := hnames k x hx
        have HX := hide hx
        clear hx hnames
        cases hq : (x.name.toList == s.toList) with
        | true =>
          go_wp2_with fail
          go_ret
          refine decl_same H.out ?_ (by decide)
          rw [HC0.out, if_pos]
          rw [look_hit HA.out HX.out hq]; rfl
        | false =>
          go_wp2_with fail
          exact ⟨⟨k + 1, by omega, by go_num, find_snoc HA.out HX.out hq⟩, by simp [intOf]; omega⟩
      · have hnone : (arOf N s.toList).isSome = false := by
          have h1 := HA.out
          rw [List.take_of_length_le (by omega)] at h1
          rw [look_miss h1]; rfl
        have HC1 : Hid (declCode N s.toList a = if 20 ≤ N.length then 8 else 0) := by
          show _ = _
          rw [HC0.out, if_neg (by rw [hnone]; decide)]
        clear hnone HA
        by_cases hfull : 20 ≤ N.length
        · go_wp2_with fail
          go_ret
          refine decl_same H.out ?_ (by decide)
          rw [HC1.out, if_pos hfull]
        · have HC2 : Hid (declCode N s.toList a = 0) := by
            show _ = _
            rw [HC1.out, if_neg hfull]
          obtain ⟨hi, hz0, hz1, hz2⟩ := HI.out
          have hsb := block_lt HB.out
          have hsep : ∀ g, (Value.slice ar N.length cap).ownBlock = some g → ¬ g = sb := H.out.sep
          have HSEP := hide hsep
          clear hsep
          go_wp2_with fail
          go_region_law ((refine step_append_lies _ (by rfl) _ _ _ (by rfl) 0 231 i0 _ 3 32 Tryz.underlying126 hi hz0 hz1 hz2 rfl (by omega) (.slice ar N.length cap) N.length (nmCells N) (by rfl) ((H.out.own.alloc _).drew) ⟨w.heap.size, 0, none⟩ 1 1 [.string s, .int .i64 a, .int .i64 F] (by rfl) (by rfl) (World.news_of_block (cs := #[.string s, .int .i64 a, .int .i64 F]) (t := 231) (fr := (0, 0)) (heap_alloc_new w _)) (by simp [Value.oneCell']) (by omega) (by unfold maxLen; omega) (by omega) (Nat.zero_le _) (w.heap.size + 1) (by simp) ?_; intro g cap' w1 hown1 hgrow hat hlt1; have kb1 : w1.heap[sb]? = some (.cells #[.slice ar N.length cap, lv, .int .i64 F, .int .i64 ans] 129) := (hgrow.block sb (by simp; omega) (fun e => HSEP.out sb e.symm rfl)).trans ((Below.heap_alloc w _ sb hsb).trans HB.out); have d0 := cell_of_block kb1 0; have d0f := frozen_of_block kb1 0; have d3 := cell_of_block kb1 3; have d3f := frozen_of_block kb1 3))
          all_goals
            go_wp2_with fail
            go_ret
            have hW : Ext (· = sb) w1 ((w1.setCell ⟨sb, 0, none⟩ (.slice (some ⟨g, 0, none⟩) (N.length + 1) cap')).setCell ⟨sb, 3, none⟩ (.int .i64 0)) := ((Ext.refl (· = sb) w1).setCell (p := ⟨sb, 0, none⟩) (fun _ => rfl) _).setCell (p := ⟨sb, 3, none⟩) (fun _ => rfl) _
            exact decl_new H.out HC2.out (by omega) (by omega) (by omega) (w0 := (w.alloc _).drew) (((Ext.refl _ w).alloc _).drew) hgrow hown1 hat hW (block_setCell (block_setCell kb1 0 _) 3 _)

end Go.Proofs.YtegbdaffhpiacaaGreatDoor

/- The document's own answer: Tidy. -/
namespace Go.Proofs.YtegbdaffhpiacaaGreatDoor
open Go.RowKit Ar

/-- What Tidy answers: a text, a place, an error. -/
def tidyOut (N : List Nm) (s : ByteArray) : List UInt8 × Int × Int :=
  if 600 < s.size then ([], 0, 1) else
    match rdWhole N s.toList with
    | .ok nd _ => (formOf nd, 0, 0)
    | .no e p => ([], p, e)

set_option maxHeartbeats 400000 in
theorem ref_tidy {w : World} {sb : Nat} {N : List Nm} {nv lv : Value} {F : Int} (s : ByteArray) (h : RefS w sb N nv lv F) (hne : 0 < N.length) (hs : s.size ≤ maxLen) :
    Calls Tryz.prog 81 #[.pointer (some ⟨sb, 0, none⟩), .string s] w fun e w' => ∃ X : ByteArray, e = .returned (.tuple #[.string X, .int .i64 (tidyOut N s).2.1, .int .i64 (tidyOut N s).2.2]) ∧ X.toList = (tidyOut N s).1 ∧ Ext (fun _ => False) w w' := by
  obtain ⟨ar, cap, hnv, hsh⟩ := h.shape
  obtain ⟨g, rfl, hnames, hgl⟩ := hsh hne
  obtain ⟨ans, hb⟩ := h.blk
  subst hnv
  have c0 := cell_of_block hb 0
  have hfew := h.few
  have HNM := hide hnames
  clear h hb hsh hnames
  by_cases hlong : 600 < s.size
  · have HO : Hid (tidyOut N s = ([], 0, 1)) := by show _ = _; rw [tidyOut, if_pos hlong]
    go_enter Tryz.func81, Tryz.ntmps81
    go_wp2_with (go_at_call 119; refine (read_long _ s false _ hlong hs).mono ?_; rintro e w' ⟨rfl, hw⟩; rw [hw]; clear hw w')
    go_ret3
    rw [HO.out]
    exact ⟨_, rfl, empty_toList, Ext.refl _ _⟩
  · have HR := hide (read_any N g cap s w (by omega) HNM.out hgl hfew)
    cases hw : rdWhole N s.toList with
    | ok nd ts =>
      have HO : Hid (tidyOut N s = (formOf nd, 0, 0)) := by show _ = _; rw [tidyOut, if_neg hlong, hw]
      have HW := hide hw
      clear hw
      go_enter Tryz.func81, Tryz.ntmps81
      go_wp2_with fail
      refine HR.out.mono ?_
      rintro e w1 ⟨hx, hm⟩
      rw [HW.out] at hm
      obtain ⟨b, rfl, hrn⟩ := hm
      obtain ⟨z0, z1, z2, z3, fz, hz, hzf⟩ := hrn.form
      have z4 := cell_of_block hz 4
      have HZF := hide hzf
      have HX := hide hx
      clear hz hzf hx hrn
      go_wp2_with fail
      go_ret3
      rw [HO.out]
      exact ⟨_, rfl, HZF.out, HX.out⟩
    | no e p =>
      have HO : Hid (tidyOut N s = ([], (p : Int), e)) := by show _ = _; rw [tidyOut, if_neg hlong, hw]
      have HW := hide hw
      clear hw
      go_enter Tryz.func81, Tryz.ntmps81
      go_wp2_with fail
      refine HR.out.mono ?_
      rintro en w1 ⟨hx, hm⟩
      rw [HW.out] at hm
      obtain ⟨rfl, he0⟩ := hm
      have he0' : (e == 0) = false := by simpa using he0
      have HX := hide hx
      clear hx
      go_wp2_with fail
      go_ret3
      rw [HO.out]
      exact ⟨_, rfl, empty_toList, HX.out⟩

end Go.Proofs.YtegbdaffhpiacaaGreatDoor
