/- The document's own answer: Assert; The document's own answer: Push and Pop. -/
import Derived.Test.YtegbdaffhpiacaaGreatDoorOwn31
import Derived.Test.YtegbdaffhpiacaaGreatDoorOwn24
import Derived.BigQuiet
/- The document's own answer: Assert. -/
namespace Go.Proofs.YtegbdaffhpiacaaGreatDoor
open Go.RowKit Ar

theorem whole_shape {N : List Nm} (hN : FewAr N) {l : List UInt8} {nd : Nd} {ts : List Tk} (h : rdWhole N l = .ok nd ts) : FmOk nd := by
  unfold rdWhole at h
  split at h
  · simp at h
  · simp at h
  · rename_i nd' t us hr
    split at h
    · simp at h
      obtain ⟨rfl, _⟩ := h
      exact form_shape hN _ _ _ _ _ hr
    · simp at h

/-- How many terms (t), or atoms, formulas and one more have. -/
def cnt (t : Bool) (Q : List Nd) (nd : Nd) : Nat := (addAll [] (subsAll t (Q ++ [nd]))).length

/-- What Assert answers: a place, an error, the formula that is kept. -/
def asOut (N : List Nm) (Q : List Nd) (s : ByteArray) : Int × Int × Option Nd :=
  if 600 < s.size then (0, 1, none) else
    match rdWhole N s.toList with
    | .no e p => (p, e, none)
    | .ok nd _ => if 20 ≤ Q.length then (0, 8, none) else if 12 < cnt true Q nd then (0, 9, none) else if 16 < cnt false Q nd then (0, 10, none) else (0, 0, some nd)

/-- A formula and its frame. -/
def Ld.pl (x : Ld) : Nd × Int := (x.nd, x.fr)

def optL (o : Option Nd) (F : Int) : List (Nd × Int) := match o with
  | none => []
  | some nd => [(nd, F)]

def AsPost (w : World) (sb : Nat) (N : List Nm) (X : List Ld) (nv lv : Value) (F : Int) (D : Nat → Prop) (s : ByteArray) (e : Ending) (w' : World) : Prop :=
  e = .returned (.tuple #[.int .i64 (asOut N (nds X) s).1, .int .i64 (asOut N (nds X) s).2.1]) ∧ Ext (fun k => k = sb ∨ lv.ownBlock = some k) w w' ∧
    ∃ X' lv' D', RefT w' sb N X' nv lv' F D' ∧ X'.map Ld.pl = X.map Ld.pl ++ optL (asOut N (nds X) s).2.2 F ∧ (∀ k, lv'.ownBlock = some k → lv.ownBlock = some k ∨ w.heap.size ≤ k) ∧ (∀ k, D' k → D k ∨ w.heap.size ≤ k)

theorem as_same {w w' : World} {sb : Nat} {N : List Nm} {X : List Ld} {nv lv : Value} {F : Int} {D : Nat → Prop} {s : ByteArray} {p c : Int} (h : RefT w sb N X nv lv F D) (hx : Ext (fun _ => False) w w') (ho : asOut N (nds X) s = (p, c, none)) : AsPost w sb N X nv lv F D s (.returned (.tuple #[.int .i64 p, .int .i64 c])) w' := by
  refine ⟨by rw [ho], hx.mono (fun _ _ f => f.elim), X, lv, D, h.ext hx (fun f => f) (fun _ _ f => f) (fun _ _ f => f) (fun _ _ f => f), ?_, fun k hk => .inl hk, fun k hk => .inl hk⟩
  rw [ho]
  simp [optL]

theorem infoLaid : (Tryz.prog.info? 174).map (fun i => (i.zero, i.size, i.bytes)) = some (some (.agg #[.pointer none, .int .i64 0]), 2, 16) := by kernel_rfl

theorem as_new {w w1 w0 w2 W : World} {sb b g cap' : Nat} {N : List Nm} {X : List Ld} {nv lv : Value} {F : Int} {D : Nat → Prop} {s : ByteArray} {nd : Nd} (h : RefT w sb N X nv lv F D) (ho : asOut N (nds X) s = (0, 0, some nd)) (hok : FmOk nd) (hfl : (formOf nd).length ≤ 1000000) (hfew : X.length < 20)
    (h1 : Ext (fun _ => False) w w1) (hrn : RN w1 (w.heap.size ≤ ·) b nd) (h0 : Ext (fun _ => False) w1 w0) (hgrow : w0.grownBy w2 lv.ownBlock) (hown : w2.ownsRow 0 174 2 (.slice (some ⟨g, 0, none⟩) (X.length + 1) cap') (X.length + 1) (ldCells X ++ [kp b, .int .i64 F]))
    (hat : lv.ownBlock = some g ∨ w1.heap.size ≤ g) (hW : Ext (· = sb) w2 W) (kW : W.heap[sb]? = some (.cells #[nv, .slice (some ⟨g, 0, none⟩) (X.length + 1) cap', .int .i64 F, .int .i64 0] 129)) :
    AsPost w sb N X nv lv F D s (.returned (.tuple #[.int .i64 0, .int .i64 0])) W := by
  obtain ⟨ans, hb⟩ := h.s.blk
  have hsb := block_lt hb
  have s1 := h1.size
  have s0 := h0.size
  have hx01 := h1.trans h0
  have hx2 : Ext (fun k => lv.ownBlock = some k) w w2 := (hx01.mono (fun _ _ f => f.elim)).grown hgrow (fun k hk _ => hk)
  have hxW : Ext (fun k => k = sb ∨ lv.ownBlock = some k) w W := (hx2.mono (fun _ _ e => Or.inr e)).trans' hW (fun _ _ e => Or.inl e)
  have hgs : ¬ g = sb := by
    rcases hat with e | e
    · exact h.lsb g e
    · omega
  have hg1 : ∀ k, lv.ownBlock = some k → k < w.heap.size := fun k hk => (h.own.lt k hk).2
  have hx1W : Ext (fun k => k = sb ∨ lv.ownBlock = some k) w1 W := ((h0.mono (fun _ _ f => f.elim)).grown hgrow (fun k hk _ => Or.inr hk)).trans' hW (fun _ _ e => Or.inl e)
  refine ⟨by rw [ho], hxW, X ++ [⟨b, nd, F⟩], .slice (some ⟨g, 0, none⟩) (X.length + 1) cap', fun k => D k ∨ (w.heap.size ≤ k ∧ k < w1.heap.size), ?_, ?_, ?_, ?_⟩
  · refine ⟨⟨⟨0, kW⟩, ?_, h.s.sep, h.s.few, h.s.ok⟩, ?_, ?_, ?_, ?_, h.f0, h.f20, ?_, ?_, ?_, ?_, ?_, ?_⟩
    · exact own_ext h.s.own hxW (fun k hk => fun e => e.elim (h.s.sep k hk) (fun e => h.lnv k e hk))
    · rw [ldCells_snoc, List.length_append]
      exact own_ext hown hW (fun k hk e => by simp [Value.ownBlock] at hk; omega)
    · intro x hx
      rcases List.mem_append.1 hx with hx | hx
      · exact ((h.rn x hx).ext hxW (fun k _ hk => fun e => e.elim (fun e => h.dsb (e ▸ hk)) (fun e => h.dlv k e hk))).mono (fun k _ hk => Or.inl hk)
      · simp at hx
        subst hx
        refine (hrn.within.ext hx1W (fun k _ hk e => ?_)).mono (fun k _ hk => Or.inr hk)
        rcases e with e | e
        · omega
        · have := hg1 k e
          omega
    · intro x hx
      rcases List.mem_append.1 hx with hx | hx
      · exact h.ok x hx
      · simp at hx
        subst hx
        exact ⟨hok, hfl⟩
    · simp; omega
    · intro k hk
      simp [Value.ownBlock] at hk
      omega
    · intro k hk e
      simp [Value.ownBlock] at hk
      subst hk
      rcases hat with e2 | e2
      · exact h.lnv g e2 e
      · have := (h.s.own.lt g e).2
        omega
    · intro k hk
      have := hxW.size
      have := hx1W.size
      rcases hk with hk | hk
      · have := h.dlt k hk
        omega
      · omega
    · rintro (e | e)
      · exact h.dsb e
      · omega
    · intro k hk e
      rcases e with e | e
      · exact h.dnv k hk e
      · have := (h.s.own.lt k hk).2
        omega
    · intro k hk e
      simp [Value.ownBlock] at hk
      subst hk
      rcases hat with e2 | e2
      · rcases e with e | e
        · exact h.dlv g e2 e
        · have := hg1 g e2
          omega
      · rcases e with e | e
        · have := h.dlt g e
          omega
        · omega
  · rw [ho]
    simp [optL, Ld.pl]
  · intro k hk
    simp [Value.ownBlock] at hk
    subst hk
    exact hat.imp id (fun e => by omega)
  · intro k hk
    rcases hk with hk | hk
    · exact .inl hk
    · exact .inr hk.1

set_option maxRecDepth 100000 in
set_option maxHeartbeats 1000000 in
theorem ref_assert {w : World} {sb : Nat} {N : List Nm} {X : List Ld} {nv lv : Value} {F : Int} {D : Nat → Prop} (s : ByteArray) (h : RefT w sb N X nv lv F D) (hne : 0 < N.length) (hs : s.size ≤ maxLen) :
    Calls Tryz.prog 82 #[.pointer (some ⟨sb, 0, none⟩), .string s] w (AsPost w sb N X nv lv F D s) := by
  obtain ⟨ar, cap, rfl, hsh⟩ := h.s.shape
  obtain ⟨g, rfl, hnames, hgl⟩ := hsh hne
  obtain ⟨la, lc, rfl, hrow⟩ := h.row
  obtain ⟨ans, hb⟩ := h.s.blk
  have c0 := cell_of_block hb 0
  have hsb := block_lt hb
  have hfew := h.s.few
  have HNM := hide hnames
  have HB := hide hb
  have H := hide h
  clear h hb hsh hnames hrow
  by_cases hlong : 600 < s.size
  · have HO : Hid (asOut N (nds X) s = (0, 1, none)) := by show _ = _; rw [asOut, if_pos hlong]
    go_enter Tryz.func82, Tryz.ntmps82
    go_wp2_with (go_at_call 119; refine (read_long _ s false _ hlong hs).mono ?_; rintro e w' ⟨rfl, hw⟩; rw [hw]; clear hw w')
    go_ret2
    exact as_same H.out (Ext.refl _ _) HO.out
  · have HR := hide (read_any N g cap s w (by omega) HNM.out hgl hfew)
    cases hw : rdWhole N s.toList with
    | no e p =>
      have HO : Hid (asOut N (nds X) s = ((p : Int), e, none)) := by show _ = _; rw [asOut, if_neg hlong, hw]
      have HW := hide hw
      clear hw
      go_enter Tryz.func82, Tryz.ntmps82
      go_wp2_with fail
      refine HR.out.mono ?_
      rintro en w1 ⟨hx, hm⟩
      rw [HW.out] at hm
      obtain ⟨rfl, he0⟩ := hm
      have he0' : (e == 0) = false := by simpa using he0
      have HX := hide hx
      clear hx
      go_wp2_with fail
      go_ret2
      exact as_same H.out HX.out HO.out
    | ok nd ts =>
      have hO : asOut N (nds X) s = if 20 ≤ X.length then (0, 8, none) else if 12 < cnt true (nds X) nd then (0, 9, none) else if 16 < cnt false (nds X) nd then (0, 10, none) else (0, 0, some nd) := by
        rw [asOut, if_neg hlong, hw]
        simp [nds]
      have HO := hide hO
      have HOK := hide (whole_shape H.out.s.ok hw)
      have HFL := hide (whole_ok (by omega) hw).2
      have HW := hide hw
      clear hw hO
      go_enter Tryz.func82, Tryz.ntmps82
      go_wp2_with fail
      refine HR.out.mono ?_
      rintro e w1 ⟨hx, hm⟩
      rw [HW.out] at hm
      obtain ⟨b, rfl, hrn⟩ := hm
      have k1 := (hx.block _ hsb (fun f => f)).trans HB.out
      clear c0
      have c1 := cell_of_block k1 1
      have HX := hide hx
      have HRN := hide hrn
      clear hx hrn k1 HR
      by_cases hfull : 20 ≤ X.length
      · go_wp2_with fail
        go_ret2
        exact as_same H.out HX.out (by rw [HO.out, if_pos hfull])
      · have HT1 := hide (H.out.ext HX.out (fun f => f) (fun _ _ f => f) (fun _ _ f => f) (fun _ _ f => f))
        have HC1 := hide (count_any true HT1.out HRN.out.within (fun k hk => hk.2) HOK.out HFL.out)
        go_wp2_with fail
        refine HC1.out.mono ?_
        rintro e w2 ⟨rfl, hx2⟩
        have hx12 := HX.out.trans hx2
        have HT2 := hide (H.out.ext hx12 (fun f => f) (fun _ _ f => f) (fun _ _ f => f) (fun _ _ f => f))
        have HC2 := hide (count_any false HT2.out (HRN.out.within.ext hx2 (fun _ _ _ f => f)) (fun k hk => Nat.lt_of_lt_of_le hk.2 hx2.size) HOK.out HFL.out)
        have HX2 := hide hx2
        clear hx2 hx12 c1 HC1
        go_wp2_with fail
        refine HC2.out.mono ?_
        rintro e w3 ⟨rfl, hx3⟩
        have HX3 := hide (HX2.out.trans hx3)
        clear hx3 HC2
        obtain ⟨n1, hn1⟩ : ∃ n1, (addAll [] (subsAll true (nds X ++ [nd]))).length = n1 := ⟨_, rfl⟩
        obtain ⟨n2, hn2⟩ : ∃ n2, (addAll [] (subsAll false (nds X ++ [nd]))).length = n2 := ⟨_, rfl⟩
        rw [hn1, hn2]
        have HO2 : Hid (asOut N (nds X) s = if 12 < n1 then (0, 9, none) else if 16 < n2 then (0, 10, none) else (0, 0, some nd)) := by
          show _ = _
          rw [HO.out, if_neg hfull, cnt, cnt, hn1, hn2]
        clear hn1 hn2 HO
        by_cases h12 : 12 < n1
        · go_wp2_with fail
          go_ret2
          exact as_same H.out (HX.out.trans HX3.out) (by rw [HO2.out, if_pos h12])
        by_cases h16 : 16 < n2
        · go_wp2_with fail
          go_ret2
          exact as_same H.out (HX.out.trans HX3.out) (by rw [HO2.out, if_neg (by omega), if_pos h16])
        · have HO3 : Hid (asOut N (nds X) s = (0, 0, some nd)) := by
            show _ = _
            rw [HO2.out, if_neg (by omega), if_neg (by omega)]
          have k3 := ((HX.out.trans HX3.out).block _ hsb (fun f => f)).trans HB.out
          have c1 := cell_of_block k3 1
          have c2 := cell_of_block k3 2
          have K3 := hide k3
          have hl3 := block_lt k3
          have HT3 := hide (H.out.ext (HX.out.trans HX3.out) (fun f => f) (fun _ _ f => f) (fun _ _ f => f) (fun _ _ f => f))
          obtain ⟨i0, hi, hz0, hz1, hz2⟩ := info_parts infoLaid
          clear k3 HO2 HT1 HT2
          go_wp2_with fail
          go_region_law ((refine step_append_lies _ (by rfl) _ _ _ (by rfl) 0 174 i0 _ 2 16 Tryz.underlying127 hi hz0 hz1 hz2 rfl (by omega) (.slice la X.length lc) X.length (ldCells X) (by rfl) ((HT3.out.own.alloc _).drew) ⟨w3.heap.size, 0, none⟩ 1 1 [kp b, .int .i64 F] (by rfl) (by rfl) (World.news_of_block (cs := #[kp b, .int .i64 F]) (t := 174) (fr := (0, 0)) (heap_alloc_new w3 _)) (by simp [Value.oneCell', kp]) (by omega) (by unfold maxLen; omega) (by omega) (Nat.zero_le _) (w3.heap.size + 1) (by simp) ?_; intro g' cap' w4 hown4 hgrow hat hlt4; have kb4 : w4.heap[sb]? = some (.cells #[.slice (some ⟨g, 0, none⟩) N.length cap, .slice la X.length lc, .int .i64 F, .int .i64 ans] 129) := (hgrow.block sb (by simp; omega) (fun e => H.out.lsb sb e.symm rfl)).trans ((Below.heap_alloc w3 _ sb hl3).trans K3.out); have d1 := cell_of_block kb4 1; have d1f := frozen_of_block kb4 1; have d3 := cell_of_block kb4 3; have d3f := frozen_of_block kb4 3))
          all_goals
            go_wp2_with fail
            go_ret2
            have hW : Ext (· = sb) w4 ((w4.setCell ⟨sb, 1, none⟩ (.slice (some ⟨g', 0, none⟩) (X.length + 1) cap')).setCell ⟨sb, 3, none⟩ (.int .i64 0)) := ((Ext.refl (· = sb) w4).setCell (p := ⟨sb, 1, none⟩) (fun _ => rfl) _).setCell (p := ⟨sb, 3, none⟩) (fun _ => rfl) _
            exact as_new H.out HO3.out HOK.out HFL.out (by omega) HX.out HRN.out (HX3.out.trans (((Ext.refl _ w3).alloc _).drew)) hgrow hown4 (hat.imp id (fun e => by have := HX3.out.size; omega)) hW (block_setCell (block_setCell kb4 1 _) 3 _)

end Go.Proofs.YtegbdaffhpiacaaGreatDoor

/- The document's own answer: Push and Pop. -/
namespace Go.Proofs.YtegbdaffhpiacaaGreatDoor
open Go.RowKit Ar

def PushPost (w : World) (sb : Nat) (N : List Nm) (X : List Ld) (nv lv : Value) (F : Int) (D : Nat → Prop) (e : Ending) (w' : World) : Prop :=
  e = .returned (.int .i64 (if 20 ≤ F then 8 else 0)) ∧ Ext (fun k => k = sb) w w' ∧ RefT w' sb N X nv lv (if 20 ≤ F then F else F + 1) D

theorem RefT.frames {w w' : World} {sb : Nat} {N : List Nm} {X : List Ld} {nv lv : Value} {F F' ans : Int} {D : Nat → Prop} (h : RefT w sb N X nv lv F D) (hx : Ext (· = sb) w w') (kb : w'.heap[sb]? = some (.cells #[nv, lv, .int .i64 F', .int .i64 ans] 129)) (h0 : 0 ≤ F') (h1 : F' ≤ 20) : RefT w' sb N X nv lv F' D :=
  ⟨⟨⟨ans, kb⟩, own_ext h.s.own hx h.s.sep, h.s.sep, h.s.few, h.s.ok⟩, own_ext h.own hx h.lsb, fun x hX => (h.rn x hX).ext hx (fun _ _ hk e => h.dsb (e ▸ hk)), h.ok, h.few, h0, h1, h.lsb, h.lnv, fun k hk => Nat.lt_of_lt_of_le (h.dlt k hk) hx.size, h.dsb, h.dnv, h.dlv⟩

set_option maxHeartbeats 400000 in
theorem ref_push {w : World} {sb : Nat} {N : List Nm} {X : List Ld} {nv lv : Value} {F : Int} {D : Nat → Prop} (h : RefT w sb N X nv lv F D) :
    Calls Tryz.prog 83 #[.pointer (some ⟨sb, 0, none⟩)] w (PushPost w sb N X nv lv F D) := by
  obtain ⟨ans, hb⟩ := h.s.blk
  have c2 := cell_of_block hb 2
  have c3 := cell_of_block hb 3
  have f2 := frozen_of_block hb 2
  have f3 := frozen_of_block hb 3
  have h0 := h.f0
  have h20 := h.f20
  have H := hide h
  have HB := hide hb
  clear h hb
  by_cases hf : 20 ≤ F
  · go_enter Tryz.func83, Tryz.ntmps83
    go_wp2_with fail
    go_ret
    exact ⟨by rw [if_pos hf]; rfl, Ext.refl _ _, by rw [if_pos hf]; exact H.out⟩
  · go_enter Tryz.func83, Tryz.ntmps83
    go_wp2_with fail
    go_ret
    have hx : Ext (· = sb) w ((w.setCell ⟨sb, 2, none⟩ (.int .i64 (F + 1))).setCell ⟨sb, 3, none⟩ (.int .i64 0)) := ((Ext.refl (· = sb) w).setCell (p := ⟨sb, 2, none⟩) (fun _ => rfl) _).setCell (p := ⟨sb, 3, none⟩) (fun _ => rfl) _
    refine ⟨by rw [if_neg (by omega)]; rfl, hx, ?_⟩
    rw [if_neg (by omega)]
    exact H.out.frames hx (block_setCell (block_setCell HB.out 2 _) 3 _) (by omega) (by omega)

/-- What stays when a frame goes: what was there before it began. -/
def keepN (F : Int) (N : List Nm) : List Nm := N.filter (fun x => decide (x.fr < F))
def keepX (F : Int) (X : List Ld) : List Ld := X.filter (fun x => decide (x.fr < F))

theorem keepN_yes {F : Int} {N : List Nm} {j : Nat} {x : Nm} (h : N[j]? = some x) (hf : x.fr < F) : keepN F (N.take (j + 1)) = keepN F (N.take j) ++ [x] := by
  rw [keepN, List.take_add_one, h, List.filter_append]
  simp [keepN, hf]
theorem keepN_no {F : Int} {N : List Nm} {j : Nat} {x : Nm} (h : N[j]? = some x) (hf : ¬ x.fr < F) : keepN F (N.take (j + 1)) = keepN F (N.take j) := by
  rw [keepN, List.take_add_one, h, List.filter_append]
  simp [keepN, hf]
theorem keepX_yes {F : Int} {X : List Ld} {j : Nat} {x : Ld} (h : X[j]? = some x) (hf : x.fr < F) : keepX F (X.take (j + 1)) = keepX F (X.take j) ++ [x] := by
  rw [keepX, List.take_add_one, h, List.filter_append]
  simp [keepX, hf]
theorem keepX_no {F : Int} {X : List Ld} {j : Nat} {x : Ld} (h : X[j]? = some x) (hf : ¬ x.fr < F) : keepX F (X.take (j + 1)) = keepX F (X.take j) := by
  rw [keepX, List.take_add_one, h, List.filter_append]
  simp [keepX, hf]
theorem keepN_len (F : Int) (N : List Nm) (j : Nat) : (keepN F (N.take j)).length ≤ N.length := by
  have h1 := List.length_filter_le (fun x : Nm => decide (x.fr < F)) (N.take j)
  have h2 : (N.take j).length ≤ N.length := by simp; omega
  unfold keepN
  omega
theorem keepX_len (F : Int) (X : List Ld) (j : Nat) : (keepX F (X.take j)).length ≤ X.length := by
  have h1 := List.length_filter_le (fun x : Ld => decide (x.fr < F)) (X.take j)
  have h2 : (X.take j).length ≤ X.length := by simp; omega
  unfold keepX
  omega

/-- A new row under way: nothing that was there at w has turned. -/
def NewRow (w : World) (e size : Nat) (v : Value) (n : Nat) (xs : List Value) (wr : World) : Prop :=
  Ext (fun _ => False) w wr ∧ wr.ownsRow 0 e size v n xs ∧ (∀ k, v.ownBlock = some k → w.heap.size ≤ k)

theorem NewRow.shape {w wr : World} {e size n : Nat} {v : Value} {xs : List Value} (h : NewRow w e size v n xs wr) : ∃ a cap, v = .slice a n cap := by
  rcases h.2.1.2 with ⟨e, e0⟩ | ⟨g, cap, cur, hv, _⟩
  · exact ⟨none, 0, by rw [e, e0]⟩
  · exact ⟨_, cap, hv⟩

theorem NewRow.drewN {w wr : World} {e size n : Nat} {v : Value} {xs : List Value} (h : NewRow w e size v n xs wr) (m : Nat) : NewRow w e size v n xs (wr.drewN m) :=
  ⟨h.1.drewN m, own_ext h.2.1 ((Ext.refl (fun _ => False) wr).drewN m) (fun _ _ f => f), h.2.2⟩

theorem new_append {w w0 w1 w2 : World} {e size n : Nat} {v v' : Value} {xs ys : List Value} (h : NewRow w e size v n xs w0) (hx : Ext (fun _ => False) w0 w1) (hg : w1.grownBy w2 v.ownBlock) (hown : w2.ownsRow 0 e size v' (n + 1) (xs ++ ys)) (hat : v'.ownBlock = v.ownBlock ∨ v'.ownBlock = some w1.heap.size) : NewRow w e size v' (n + 1) (xs ++ ys) w2 := by
  have s0 := h.1.size
  have s1 := hx.size
  refine ⟨(h.1.trans hx).grown hg (fun k hk hlt => by have := h.2.2 k hk; omega), hown, ?_⟩
  intro k hk
  rcases hat with e | e
  · exact h.2.2 k (e ▸ hk)
  · rw [e] at hk
    simp at hk
    omega

theorem nmCells_fr {N : List Nm} {i : Nat} {x : Nm} (h : N[i]? = some x) : (nmCells N)[i * 3 + 2]? = some (.int .i64 x.fr) := by
  obtain ⟨hi, hx⟩ := List.getElem?_eq_some_iff.1 h
  have e : N.take i ++ x :: N.drop (i + 1) = N := by rw [← hx, List.getElem_cons_drop, List.take_append_drop]
  have e2 : nmCells (N.take i ++ x :: N.drop (i + 1)) = nmCells (N.take i) ++ ([.string x.name, .int .i64 x.ar, .int .i64 x.fr] ++ nmCells (N.drop (i + 1))) := by
    simp [nmCells]
  rw [e] at e2
  have hl : (nmCells (N.take i)).length = i * 3 := by rw [nmCells_len, List.length_take]; congr 1; omega
  rw [e2, List.getElem?_append_right (by rw [hl]; omega), hl]
  have : i * 3 + 2 - i * 3 = 2 := by omega
  rw [this]; rfl

def PopPost (w : World) (sb : Nat) (N : List Nm) (X : List Ld) (F : Int) (D : Nat → Prop) (e : Ending) (w' : World) : Prop :=
  e = .returned (.int .i64 0) ∧ Ext (fun k => k = sb) w w' ∧ ∃ nv' lv', RefT w' sb (keepN F N) (keepX F X) nv' lv' (F - 1) D ∧ (∀ k, nv'.ownBlock = some k → w.heap.size ≤ k) ∧ (∀ k, lv'.ownBlock = some k → w.heap.size ≤ k)

theorem pop_done {w w1 w2 W : World} {sb : Nat} {N : List Nm} {X : List Ld} {nv lv nv' lv' : Value} {F ans : Int} {D : Nat → Prop} (h : RefT w sb N X nv lv F D) (hF : 0 < F) (h1 : NewRow w 231 3 nv' (keepN F N).length (nmCells (keepN F N)) w1) (h2 : NewRow w1 174 2 lv' (keepX F X).length (ldCells (keepX F X)) w2)
    (hx : Ext (· = sb) w2 W) (kb : W.heap[sb]? = some (.cells #[nv', lv', .int .i64 (F - 1), .int .i64 ans] 129)) : PopPost w sb N X F D (.returned (.int .i64 0)) W := by
  obtain ⟨a0, hb⟩ := h.s.blk
  have hsb := block_lt hb
  have s1 := h1.1.size
  have s2 := h2.1.size
  have hxw : Ext (· = sb) w W := ((h1.1.trans h2.1).mono (fun _ _ f => f.elim)).trans hx
  have e1 : ∀ x ∈ keepN F N, x ∈ N := fun x hx => (List.mem_filter.1 hx).1
  have e2 : ∀ x ∈ keepX F X, x ∈ X := fun x hx => (List.mem_filter.1 hx).1
  have l1 : (keepN F N).length ≤ N.length := List.length_filter_le _ _
  have l2 : (keepX F X).length ≤ X.length := List.length_filter_le _ _
  have fN := h.s.few
  have fX := h.few
  have hf0 := h.f0
  have hf20 := h.f20
  have hn1 : ∀ k, nv'.ownBlock = some k → w.heap.size ≤ k ∧ k < w1.heap.size := fun k hk => ⟨h1.2.2 k hk, (h1.2.1.lt k hk).2⟩
  refine ⟨rfl, hxw, nv', lv', ⟨⟨⟨ans, kb⟩, own_ext h1.2.1 ((h2.1.mono (fun _ _ f => f.elim)).trans hx) (fun k hk e => by have := hn1 k hk; omega), fun k hk e => by have := hn1 k hk; omega, by omega, fun x hx => h.s.ok x (e1 x hx)⟩, own_ext h2.2.1 hx (fun k hk e => by have := h2.2.2 k hk; omega), ?_, fun x hx => h.ok x (e2 x hx), by omega, by omega, by omega, fun k hk e => by have := h2.2.2 k hk; omega, fun k hk e => by have := h2.2.2 k hk; have := hn1 k e; omega, fun k hk => Nat.lt_of_lt_of_le (h.dlt k hk) hxw.size, h.dsb, fun k hk e => by have := hn1 k hk; have := h.dlt k e; omega, fun k hk e => by have := h2.2.2 k hk; have := h.dlt k e; omega⟩, fun k hk => (hn1 k hk).1, fun k hk => by have := h2.2.2 k hk; omega⟩
  intro x hX
  exact (h.rn x (e2 x hX)).ext hxw (fun _ _ hk e => h.dsb (e ▸ hk))

set_option maxRecDepth 100000 in
set_option maxHeartbeats 1000000 in
theorem ref_pop {w : World} {sb : Nat} {N : List Nm} {X : List Ld} {nv lv : Value} {F : Int} {D : Nat → Prop} (h : RefT w sb N X nv lv F D) (hF : 0 < F) :
    Calls Tryz.prog 84 #[.pointer (some ⟨sb, 0, none⟩)] w (PopPost w sb N X F D) := by
  obtain ⟨ar, cap, rfl, hsh⟩ := h.s.shape
  obtain ⟨la, lc, rfl, hrow⟩ := h.row
  obtain ⟨ans, hb⟩ := h.s.blk
  have c0 := cell_of_block hb 0
  have c1 := cell_of_block hb 1
  have c2 := cell_of_block hb 2
  have c3 := cell_of_block hb 3
  have hF0 : (F == 0) = false := by simp; omega
  have hsb := block_lt hb
  have hnm : ∀ j x, N[j]? = some x → ∃ g, ar = some ⟨g, 0, none⟩ ∧ g < w.heap.size ∧ w.cell? ⟨g, j * 3, none⟩ = some (.string x.name) ∧ w.cell? ⟨g, j * 3 + 1, none⟩ = some (.int .i64 x.ar) ∧ w.cell? ⟨g, j * 3 + 2, none⟩ = some (.int .i64 x.fr) := by
    intro j x hx
    have hown := h.s.own
    have hi := (List.getElem?_eq_some_iff.1 hx).1
    obtain ⟨g, rfl, _, hgl⟩ := hsh (by omega)
    have hc : ∀ q, q < N.length * 3 → w.cell? ⟨g, q, none⟩ = (nmCells N)[q]? := fun q hq => hown.cellAt q hq
    have e := nmCells_get hx
    exact ⟨g, rfl, hgl, by rw [hc _ (by omega)]; exact e.1, by rw [hc _ (by omega)]; exact e.2, by rw [hc _ (by omega)]; exact nmCells_fr hx⟩
  have HNM := hide hnm
  have HROW := hide hrow
  have HB := hide hb
  have H := hide h
  have hfN := h.s.few
  have hfX := h.few
  obtain ⟨i0, hi, hz0, hz1, hz2⟩ := info_parts info101
  have HI : Hid (Tryz.prog.info? 231 = some i0 ∧ i0.zero = some (.agg #[.string ByteArray.empty, .int .i64 0, .int .i64 0]) ∧ i0.size = 3 ∧ i0.bytes = 32) := ⟨hi, hz0, hz1, hz2⟩
  clear h hb hsh hnm hrow hi hz0 hz1 hz2
  go_enter Tryz.func84, Tryz.ntmps84
  go_wp2_with fail
  go_loopw [3, 4] (fun vv i wr => ∃ (j : Nat), j ≤ N.length ∧ i = .int .i64 j ∧ NewRow w 231 3 vv (keepN F (N.take j)).length (nmCells (keepN F (N.take j))) wr) (fun _ i _ => N.length - (intOf i).toNat)
  case atStart => exact ⟨0, Nat.zero_le _, rfl, Ext.refl _ _, World.ownsRow_nil _ _ _ _, fun k hk => absurd hk (by simp [Value.ownBlock])⟩
  case round =>
    clear c0 c1 c2 c3
    obtain ⟨j, hj, rfl, hnr⟩ := hrel
    obtain ⟨va, vc, rfl⟩ := hnr.shape
    have kb := (hnr.1.block _ hsb (fun f => f)).trans HB.out
    have c0 := cell_of_block kb 0
    have c1 := cell_of_block kb 1
    have c2 := cell_of_block kb 2
    have HNR := hide hnr
    clear hnr kb
    by_cases hlt : j < N.length
    · obtain ⟨x, hx⟩ : ∃ x, N[j]? = some x := ⟨_, List.getElem?_eq_getElem hlt⟩
      obtain ⟨g, rfl, hgl, e0, e1, e2⟩ := HNM.out j x hx
      rw [← HNR.out.1.cell (p := ⟨g, j * 3, none⟩) hgl (fun f => f)] at e0
      rw [← HNR.out.1.cell (p := ⟨g, j * 3 + 1, none⟩) hgl (fun f => f)] at e1
      rw [← HNR.out.1.cell (p := ⟨g, j * 3 + 2, none⟩) hgl (fun f => f)] at e2
      have HX := hide hx
      clear hx hgl
      by_cases hfr : x.fr < F
      · go_wp2_with fail
        go_quiet (fail)
        obtain ⟨hi, hz0, hz1, hz2⟩ := HI.out
        have HNQ := hide (HNR.out.drewN nq)
        go_wp2_with (at_builtin; refine wpList_append_own_at _ rfl _ _ 126 rfl 0 231 i0 (.agg #[.string ByteArray.empty, .int .i64 0, .int .i64 0]) 3 32 Tryz.underlying126 hi hz0 hz1 hz2 rfl (by decide) _ _ _ rfl (HNQ.out.2.1.alloc _) ⟨wr.heap.size, 0, none⟩ 1 1 [.string x.name, .int .i64 x.ar, .int .i64 x.fr] rfl rfl ?c1 ?c2 ?c3 ?c4 ?c5 ?_)
        case c1 => exact World.news_of_block (cs := #[.string x.name, .int .i64 x.ar, .int .i64 x.fr]) (t := 231) (fr := (0, 0)) (heap_alloc_new (wr.drewN nq) _)
        case c2 => intro u2 hu2; simp at hu2; rcases hu2 with rfl | rfl | rfl <;> rfl
        case c3 => unfold maxLen; have := keepN_len F N j; omega
        case c4 => have := keepN_len F N j; omega
        case c5 => omega
        intro v' wa hown' hgrow _ hat
        have HNA := hide (new_append HNQ.out ((Ext.refl _ _).alloc _) hgrow hown' (by simpa using hat))
        clear hown' hgrow hat hi hz0 hz1 hz2
        go_wp2_with fail
        go_roundw
        case measure => simp [intOf]; omega
        case rel =>
          refine ⟨j + 1, by omega, by go_num, ?_⟩
          rw [keepN_yes HX.out hfr, nmCells_snoc, List.length_append]
          exact HNA.out
      · go_wp2_with fail
        go_quiet (fail)
        have HNQ := hide (HNR.out.drewN nq)
        go_wp2_with fail
        go_roundw
        case measure => simp [intOf]; omega
        case rel =>
          refine ⟨j + 1, by omega, by go_num, ?_⟩
          rw [keepN_no HX.out (by omega)]
          exact HNQ.out
    · have hnr := HNR.out
      rw [List.take_of_length_le (by omega)] at hnr
      have HN1 := hide hnr
      obtain ⟨j0, gi, gz0, gz1, gz2⟩ := info_parts infoLaid
      have HJ : Hid (Tryz.prog.info? 174 = some j0 ∧ j0.zero = some (.agg #[.pointer none, .int .i64 0]) ∧ j0.size = 2 ∧ j0.bytes = 16) := ⟨gi, gz0, gz1, gz2⟩
      clear hnr HNR gi gz0 gz1 gz2 HI HNM
      obtain ⟨w1, hw1⟩ : ∃ w1, w1 = wr := ⟨_, rfl⟩
      subst hw1
      go_wp2_with fail
      go_loopw [5, 6] (fun vv i wq => ∃ (j : Nat), j ≤ X.length ∧ i = .int .i64 j ∧ NewRow w1 174 2 vv (keepX F (X.take j)).length (ldCells (keepX F (X.take j))) wq) (fun _ i _ => X.length - (intOf i).toNat)
      case atStart => exact ⟨0, Nat.zero_le _, rfl, Ext.refl _ _, World.ownsRow_nil _ _ _ _, fun k hk => absurd hk (by simp [Value.ownBlock])⟩
      case round =>
        clear c0 c1 c2
        obtain ⟨q, hq, rfl, hnr⟩ := hrel
        obtain ⟨va2, vc2, rfl⟩ := hnr.shape
        have kb := ((HN1.out.1.trans hnr.1).block _ hsb (fun f => f)).trans HB.out
        have c0 := cell_of_block kb 0
        have c1 := cell_of_block kb 1
        have c2 := cell_of_block kb 2
        have HNR := hide hnr
        have HKB := hide kb
        clear hnr kb
        by_cases hlt2 : q < X.length
        · obtain ⟨x, hx⟩ : ∃ x, X[q]? = some x := ⟨_, List.getElem?_eq_getElem hlt2⟩
          obtain ⟨g, rfl, hgl, _, e0, e1⟩ := HROW.out q x hx
          rw [← (HN1.out.1.trans HNR.out.1).cell (p := ⟨g, q * 2, none⟩) hgl (fun f => f)] at e0
          rw [← (HN1.out.1.trans HNR.out.1).cell (p := ⟨g, q * 2 + 1, none⟩) hgl (fun f => f)] at e1
          have HX := hide hx
          clear hx hgl
          by_cases hfr : x.fr < F
          · go_wp2_with fail
            go_quiet (fail)
            obtain ⟨hi, hz0, hz1, hz2⟩ := HJ.out
            have HNQ := hide (HNR.out.drewN nq)
            go_wp2_with (at_builtin; refine wpList_append_own_at _ rfl _ _ 127 rfl 0 174 j0 (.agg #[.pointer none, .int .i64 0]) 2 16 Tryz.underlying127 hi hz0 hz1 hz2 rfl (by decide) _ _ _ rfl (HNQ.out.2.1.alloc _) ⟨wr.heap.size, 0, none⟩ 1 1 [.pointer (some ⟨x.b, 0, none⟩), .int .i64 x.fr] rfl rfl ?c1 ?c2 ?c3 ?c4 ?c5 ?_)
            case c1 => exact World.news_of_block (cs := #[.pointer (some ⟨x.b, 0, none⟩), .int .i64 x.fr]) (t := 174) (fr := (0, 0)) (heap_alloc_new (wr.drewN nq) _)
            case c2 => intro u2 hu2; simp at hu2; rcases hu2 with rfl | rfl <;> rfl
            case c3 => unfold maxLen; have := keepX_len F X q; omega
            case c4 => have := keepX_len F X q; omega
            case c5 => omega
            intro v' wa hown' hgrow _ hat
            have HNA := hide (new_append HNQ.out ((Ext.refl _ _).alloc _) hgrow hown' (by simpa using hat))
            clear hown' hgrow hat hi hz0 hz1 hz2
            go_wp2_with fail
            go_roundw
            case measure => simp [intOf]; omega
            case rel =>
              refine ⟨q + 1, by omega, by go_num, ?_⟩
              rw [keepX_yes HX.out hfr, ldCells_snoc, List.length_append]
              exact HNA.out
          · go_wp2_with fail
            go_quiet (fail)
            have HNQ := hide (HNR.out.drewN nq)
            go_wp2_with fail
            go_roundw
            case measure => simp [intOf]; omega
            case rel =>
              refine ⟨q + 1, by omega, by go_num, ?_⟩
              rw [keepX_no HX.out (by omega)]
              exact HNQ.out
        · have hnr := HNR.out
          rw [List.take_of_length_le (by omega)] at hnr
          have HN2 := hide hnr
          have f0 := frozen_of_block HKB.out 0
          have f1 := frozen_of_block HKB.out 1
          have f2 := frozen_of_block HKB.out 2
          have f3 := frozen_of_block HKB.out 3
          have c3 := cell_of_block HKB.out 3
          have hF1 := H.out.f20
          clear hnr HNR
          go_wp2_with fail
          go_ret
          rw [List.take_of_length_le (l := N) (i := j) (by omega), List.take_of_length_le (l := X) (i := q) (by omega)]
          exact pop_done H.out hF HN1.out HN2.out (((((Ext.refl (· = sb) _).setCell (p := ⟨sb, 0, none⟩) (fun _ => rfl) _).setCell (p := ⟨sb, 1, none⟩) (fun _ => rfl) _).setCell (p := ⟨sb, 2, none⟩) (fun _ => rfl) _).setCell (p := ⟨sb, 3, none⟩) (fun _ => rfl) _) (block_setCell (block_setCell (block_setCell (block_setCell HKB.out 0 _) 1 _) 2 _) 3 _)

set_option maxHeartbeats 400000 in
theorem ref_pop_none {w : World} {sb : Nat} {N : List Nm} {X : List Ld} {nv lv : Value} {D : Nat → Prop} (h : RefT w sb N X nv lv 0 D) :
    Calls Tryz.prog 84 #[.pointer (some ⟨sb, 0, none⟩)] w fun e w' => e = .returned (.int .i64 11) ∧ w' = w := by
  obtain ⟨ans, hb⟩ := h.s.blk
  have c2 := cell_of_block hb 2
  clear h hb
  go_enter Tryz.func84, Tryz.ntmps84
  go_wp2_with fail
  go_ret
  exact ⟨rfl, rfl⟩

end Go.Proofs.YtegbdaffhpiacaaGreatDoor
