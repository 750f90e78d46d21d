/- The program: Assert; The program: Assert takes a formula, or nothing of it; Plain: what both sides of a stack of frames have in common; Plain: an atom's terms stand where it stands; A session of the program beside one of the document, with formulas and frames; The law: a step of Push, Pop, Count; The law: a step of Declare, of Tidy, of a pair with frames; The law: a step of any kind but Assert, of a pair with frames. -/
import Derived.Test.YtegbdaffhpiacaaGreatDoorOwn29
import Derived.Test.YtegbdaffhpiacaaGreatDoorOwn32
import Derived.Test.YtegbdaffhpiacaaGreatDoorOwn24
/- The program: Assert. -/
namespace Go.Proofs.YtegbdaffhpiacaaGreatDoor
open Go.RowKit Go.Maps Ar

theorem own_set {w : World} {e size n g cap : Nat} {xs : List Value} (h : w.ownsRow 0 e size (.slice (some ⟨g, 0, none⟩) n cap) n xs) (j : Nat) (u : Value) : ∃ ys, (w.setCell ⟨g, j, none⟩ u).ownsRow 0 e size (.slice (some ⟨g, 0, none⟩) n cap) n ys := by
  rcases h.2 with ⟨e0, _⟩ | ⟨g', cap', cur, hv, hg, hh, h1, h2, h3, h4⟩
  · cases e0
  · cases hv
    refine ⟨(cur.setIfInBounds j u).toList.take (n * size), ?_, .inr ⟨g, cap, cur.setIfInBounds j u, rfl, hg, block_setCell hh j u, h1, h2, by simpa using h3, rfl⟩⟩
    have := Nat.mul_le_mul_right size h1
    simp
    omega

section
variable {w : World} {sb : Nat} {N : List Nm} {nv : Value} {xs : PX} {T A : List Nd} {nF : Nat} {K : List Fr4}

def PAPost (w : World) (sb : Nat) (N : List Nm) (nv : Value) (xs : PX) (T A : List Nd) (nF : Nat) (K : List Fr4) (p c : Int) (e : Ending) (w' : World) : Prop :=
  e = .returned (.tuple #[.int .i64 p, .int .i64 c]) ∧ SPost w sb nv xs N T A nF K w'

theorem pa_same (h : PSS w sb N nv xs T A nF K) {w' : World} (hx : Ext (fun _ => False) w w') : SPost w sb nv xs N T A nF K w' := ⟨hx.mono (fun _ _ f => f.elim), nv, xs, h.ext hx (fun _ _ f => f), fun _ hk => .inl hk⟩

set_option maxHeartbeats 1000000 in
theorem pa_long (s : ByteArray) (h : PSS w sb N nv xs T A nF K) (hs : 600 < s.size) (hm : s.size ≤ maxLen) :
    Calls Tryz.prog 25 #[.pointer (some ⟨sb, 0, none⟩), .string s] w (PAPost w sb N nv xs T A nF K 0 1) := by
  have HC := hide (p_Formula_long (.pointer (some ⟨sb, 0, none⟩)) s w hs hm)
  have c0 := cell_of_block h.p.ts.blk 0
  have H := hide h
  clear h hs hm
  go_enter Tryz.func25, Tryz.ntmps25
  go_wp2_with fail
  refine HC.out.mono ?_
  rintro e w1 ⟨rfl, hx1⟩
  have HX1 := hide hx1
  clear hx1
  go_wp2_with fail
  go_ret2
  exact ⟨rfl, pa_same H.out (HX1.out.alloc _)⟩

set_option maxHeartbeats 1000000 in
theorem pa_no (s : ByteArray) {e : Int} {p : Nat} (h : PSS w sb N nv xs T A nF K) (hs : s.size ≤ 600) (hhd : HdLaid w) (hr : rdWhole N s.toList = .no e p) :
    Calls Tryz.prog 25 #[.pointer (some ⟨sb, 0, none⟩), .string s] w (PAPost w sb N nv xs T A nF K p e) := by
  have HC := hide (p_Formula s w hs h.ps.tab hhd)
  have he0 : (e == 0) = false := by simpa using whole_no hr
  have c0 := cell_of_block h.p.ts.blk 0
  have H := hide h
  have HR := hide hr
  clear h hs hhd hr
  go_enter Tryz.func25, Tryz.ntmps25
  go_wp2_with fail
  refine HC.out.mono ?_
  rintro en w1 ⟨hx1, hm⟩
  rw [HR.out] at hm
  subst hm
  have HX1 := hide hx1
  clear hx1
  go_wp2_with fail
  go_ret2
  exact ⟨rfl, pa_same H.out (HX1.out.alloc _)⟩

set_option maxHeartbeats 1000000 in
theorem pa_full (s : ByteArray) {nd : Nd} {us : List Tk} (h : PSS w sb N nv xs T A nF K) (hs : s.size ≤ 600) (hhd : HdLaid w) (hr : rdWhole N s.toList = .ok nd us) (hf : 20 ≤ nF) :
    Calls Tryz.prog 25 #[.pointer (some ⟨sb, 0, none⟩), .string s] w (PAPost w sb N nv xs T A nF K 0 8) := by
  have HC := hide (p_Formula s w hs h.ps.tab hhd)
  obtain ⟨ys, hfo⟩ := h.fown
  obtain ⟨fa, fc, e1⟩ := row_shape hfo
  have kb := h.p.ts.blk
  rw [e1] at kb
  have c0 := cell_of_block kb 0
  have hsb := block_lt kb
  have KB := hide kb
  have H := hide h
  have HR := hide hr
  clear h hs hhd hr hfo e1 kb
  go_enter Tryz.func25, Tryz.ntmps25
  go_wp2_with fail
  refine HC.out.mono ?_
  rintro en w1 ⟨hx1, hm⟩
  rw [HR.out] at hm
  obtain ⟨k, wd, v, sa, sn, sc, rfl, _⟩ := hm
  have kb1 := (hx1.block sb hsb (fun f => f)).trans KB.out
  have c5 := cell_of_block kb1 5
  have hl1 := block_lt kb1
  have hne : ¬ sb = w1.heap.size := by omega
  have HX1 := hide hx1
  clear hx1 kb1 c0
  go_wp2_with fail
  go_ret2
  exact ⟨rfl, pa_same H.out (HX1.out.alloc _)⟩

theorem zb_kept {V w2 : World} {b n : Nat} {o : Obj} {T' A' : List Nd} (hlt : ∀ k, SF sb nv xs k → k < b) (hb : b ≤ n) (hn : V.heap.size = n + 1) (h : APost (V.alloc o).drew sb nv xs T' A' w2) : w2.heap[n + 1]? = some o := by
  obtain ⟨_, _, _, _, _, k2, _⟩ := h
  rw [← hn]
  refine (k2.block _ (by show V.heap.size < (V.alloc o).heap.size; simp) (fun e => ?_)).trans (heap_alloc_new V o)
  have := hlt _ (.inl e)
  omega

theorem zb_free {V : World} {b n : Nat} {o : Obj} {xs3 : PX} (hlt : ∀ k, SF sb nv xs k → k < b) (hb : b ≤ n) (hn : V.heap.size = n + 1) (hF : ∀ k, SF sb nv xs3 k → SF sb nv xs k ∨ (V.alloc o).drew.heap.size ≤ k) : ∀ k, SF sb nv xs3 k → ¬ k = n + 1 := by
  intro k hk e
  have hs : (V.alloc o).drew.heap.size = V.heap.size + 1 := by show (V.alloc o).heap.size = _; simp
  rcases hF k hk with h | h
  · have := hlt k h; omega
  · omega

theorem own_set4 {w : World} {e size n g cap : Nat} {xs : List Value} (h : w.ownsRow 0 e size (.slice (some ⟨g, 0, none⟩) n cap) n xs) (a b c d : Nat) (ua ub uc ud : Value) : ∃ ys, ((((w.setCell ⟨g, a, none⟩ ua).setCell ⟨g, b, none⟩ ub).setCell ⟨g, c, none⟩ uc).setCell ⟨g, d, none⟩ ud).ownsRow 0 e size (.slice (some ⟨g, 0, none⟩) n cap) n ys := by
  obtain ⟨y1, h1⟩ := own_set h a ua
  obtain ⟨y2, h2⟩ := own_set h1 b ub
  obtain ⟨y3, h3⟩ := own_set h2 c uc
  exact own_set h3 d ud

theorem ext_set4 (w : World) (g a b c d : Nat) (ua ub uc ud : Value) : Ext (fun k => k = g) w ((((w.setCell ⟨g, a, none⟩ ua).setCell ⟨g, b, none⟩ ub).setCell ⟨g, c, none⟩ uc).setCell ⟨g, d, none⟩ ud) :=
  ((((Ext.refl (fun k => k = g) w).setCell (p := ⟨g, a, none⟩) (fun _ => rfl) _).setCell (p := ⟨g, b, none⟩) (fun _ => rfl) _).setCell (p := ⟨g, c, none⟩) (fun _ => rfl) _).setCell (p := ⟨g, d, none⟩) (fun _ => rfl) _

theorem row_at {w : World} {e n g cap : Nat} {xs : List Value} {a b c d : Value} (h : w.ownsRow 0 e 4 (.slice (some ⟨g, 0, none⟩) (n + 1) cap) (n + 1) (xs ++ [a, b, c, d])) (hl : xs.length = n * 4) : w.cell? ⟨g, n * 4, none⟩ = some a ∧ w.cell? ⟨g, n * 4 + 1, none⟩ = some b ∧ w.cell? ⟨g, n * 4 + 2, none⟩ = some c ∧ w.cell? ⟨g, n * 4 + 3, none⟩ = some d := by
  have hc : ∀ q, q < 4 → w.cell? ⟨g, n * 4 + q, none⟩ = [a, b, c, d][q]? := by
    intro q hq
    rw [h.cellAt _ (by omega), List.getElem?_append_right (by omega), hl, show n * 4 + q - n * 4 = q by omega]
  exact ⟨hc 0 (by decide), hc 1 (by decide), hc 2 (by decide), hc 3 (by decide)⟩

/-- A formula stands behind the others. -/
theorem asrt_done {W w0 w3 W' : World} {xs3 : PX} {T' A' : List Nd} {g cap' : Nat} (h : PSS W sb N nv xs3 T' A' nF K) (hf : nF < 20) (h0 : Ext (fun _ => False) W w0) (hgrow : w0.grownBy w3 xs3.fs.ownBlock) (hat : xs3.fs.ownBlock = some g ∨ W.heap.size ≤ g) (hx : Ext (fun k => k = g ∨ k = sb) w3 W') (hown : ∃ ys, W'.ownsRow 0 112 4 (.slice (some ⟨g, 0, none⟩) (nF + 1) cap') (nF + 1) ys) (kb : W'.heap[sb]? = some (.cells #[nv, xs3.ts, xs3.tm, xs3.at_, xs3.am, .slice (some ⟨g, 0, none⟩) (nF + 1) cap', xs3.ks, xs3.vd, xs3.ml] 98)) :
    ∃ xs4, PSS W' sb N nv xs4 T' A' (nF + 1) K ∧ Goes W sb nv xs3 nv xs4 W' := by
  obtain ⟨ys, ho⟩ := hown
  obtain ⟨h1, h2⟩ := pss_fml (nF' := nF + 1) h kb ho (by omega) ((((h0.mono (fun _ _ f => f.elim)).grown hgrow (fun k hk _ => Or.inr hk)).trans' hx (fun k hk e => by
    rcases e with e | e
    · subst e
      rcases hat with e2 | e2
      · exact .inr e2
      · omega
    · exact .inl e))) (fun k hk => by
    simp [Value.ownBlock] at hk
    subst hk
    exact hat)
  exact ⟨_, h1, h2⟩

theorem ext_set5a (w : World) (g sb a b c d : Nat) (ua ub uc ud u : Value) : Ext (fun k => k = g ∨ k = sb) w (((((w.setCell ⟨g, a, none⟩ ua).setCell ⟨g, b, none⟩ ub).setCell ⟨g, c, none⟩ uc).setCell ⟨g, d, none⟩ ud).setCell ⟨sb, 5, none⟩ u) :=
  ((ext_set4 w g a b c d ua ub uc ud).mono (fun _ _ e => Or.inl e)).trans' ((Ext.refl (fun k => k = sb) _).setCell (p := ⟨sb, 5, none⟩) (fun _ => rfl) u) (fun _ _ e => Or.inr e)

theorem ext_set5b (w : World) (g sb a b c d : Nat) (ua ub uc ud u : Value) : Ext (fun k => k = g ∨ k = sb) w (((((w.setCell ⟨sb, 5, none⟩ u).setCell ⟨g, a, none⟩ ua).setCell ⟨g, b, none⟩ ub).setCell ⟨g, c, none⟩ uc).setCell ⟨g, d, none⟩ ud) :=
  (((Ext.refl (fun k => k = sb) w).setCell (p := ⟨sb, 5, none⟩) (fun _ => rfl) u).mono (fun _ _ e => Or.inr e)).trans' (ext_set4 _ g a b c d ua ub uc ud) (fun _ _ e => Or.inl e)

section
variable {W w0 w3 : World} {xs3 : PX} {T' A' : List Nd} {g cap' : Nat} {zs : List Value} {fs0 : Value}

theorem asrt_finA (a b c d : Nat) (ua ub uc ud : Value) (hP : PSS W sb N nv xs3 T' A' nF K) (hG : Goes w sb nv xs nv xs3 W) (hf : nF < 20) (h0 : Ext (fun _ => False) W w0) (hgr : w0.grownBy w3 xs3.fs.ownBlock) (hat : xs3.fs.ownBlock = some g ∨ W.heap.size ≤ g) (hown : w3.ownsRow 0 112 4 (.slice (some ⟨g, 0, none⟩) (nF + 1) cap') (nF + 1) zs) (hgs : ¬ sb = g) (kb3 : w3.heap[sb]? = some (.cells #[nv, xs3.ts, xs3.tm, xs3.at_, xs3.am, fs0, xs3.ks, xs3.vd, xs3.ml] 98)) :
    SPost w sb nv xs N T' A' (nF + 1) K (((((w3.setCell ⟨g, a, none⟩ ua).setCell ⟨g, b, none⟩ ub).setCell ⟨g, c, none⟩ uc).setCell ⟨g, d, none⟩ ud).setCell ⟨sb, 5, none⟩ (.slice (some ⟨g, 0, none⟩) (nF + 1) cap')) := by
  obtain ⟨xs4, h5, h6⟩ := asrt_done hP hf h0 hgr hat (ext_set5a w3 g sb a b c d ua ub uc ud (.slice (some ⟨g, 0, none⟩) (nF + 1) cap')) (by
    obtain ⟨y, hy⟩ := own_set4 hown a b c d ua ub uc ud
    exact ⟨y, own_ext hy ((Ext.refl (fun k => k = sb) _).setCell (p := ⟨sb, 5, none⟩) (fun _ => rfl) _) (fun k hk e => by simp [Value.ownBlock] at hk; omega)⟩) (block_setCell (((ext_set4 w3 g _ _ _ _ _ _ _ _).block sb (block_lt kb3) hgs).trans kb3) 5 _)
  have hG2 := hG.trans h6
  exact ⟨hG2.1, nv, xs4, h5, hG2.2⟩

theorem asrt_finB (a b c d : Nat) (ua ub uc ud : Value) (hP : PSS W sb N nv xs3 T' A' nF K) (hG : Goes w sb nv xs nv xs3 W) (hf : nF < 20) (h0 : Ext (fun _ => False) W w0) (hgr : w0.grownBy w3 xs3.fs.ownBlock) (hat : xs3.fs.ownBlock = some g ∨ W.heap.size ≤ g) (hown : w3.ownsRow 0 112 4 (.slice (some ⟨g, 0, none⟩) (nF + 1) cap') (nF + 1) zs) (hgs : ¬ sb = g) (kb3 : w3.heap[sb]? = some (.cells #[nv, xs3.ts, xs3.tm, xs3.at_, xs3.am, fs0, xs3.ks, xs3.vd, xs3.ml] 98)) :
    SPost w sb nv xs N T' A' (nF + 1) K (((((w3.setCell ⟨sb, 5, none⟩ (.slice (some ⟨g, 0, none⟩) (nF + 1) cap')).setCell ⟨g, a, none⟩ ua).setCell ⟨g, b, none⟩ ub).setCell ⟨g, c, none⟩ uc).setCell ⟨g, d, none⟩ ud) := by
  obtain ⟨xs4, h5, h6⟩ := asrt_done hP hf h0 hgr hat (ext_set5b w3 g sb a b c d ua ub uc ud (.slice (some ⟨g, 0, none⟩) (nF + 1) cap')) (own_set4 (own_ext hown ((Ext.refl (fun k => k = sb) _).setCell (p := ⟨sb, 5, none⟩) (fun _ => rfl) _) (fun k hk e => by simp [Value.ownBlock] at hk; omega)) a b c d ua ub uc ud) (((ext_set4 _ g _ _ _ _ _ _ _ _).block sb (by simpa using block_lt kb3) hgs).trans (block_setCell kb3 5 _))
  have hG2 := hG.trans h6
  exact ⟨hG2.1, nv, xs4, h5, hG2.2⟩
end
end

end Go.Proofs.YtegbdaffhpiacaaGreatDoor

/- The program: Assert takes a formula, or nothing of it. -/
namespace Go.Proofs.YtegbdaffhpiacaaGreatDoor
open Go.RowKit Go.Maps Ar

section
variable {w : World} {sb : Nat} {N : List Nm} {nv : Value} {xs : PX} {T A : List Nd} {nF : Nat} {K : List Fr4}

set_option maxRecDepth 100000 in
set_option maxHeartbeats 16000000 in
theorem pa_take (s : ByteArray) {nd : Nd} {us : List Tk} (h : PSS w sb N nv xs T A nF K) (hs : s.size ≤ 600) (hhd : HdLaid w) (hr : rdWhole N s.toList = .ok nd us) (hf : nF < 20) :
    Calls Tryz.prog 25 #[.pointer (some ⟨sb, 0, none⟩), .string s] w fun e w' => ∃ T' A', AddsP T T' (subs true nd) ∧ AddsP A A' (subs false nd) ∧ e = .returned (.tuple #[.int .i64 0, .int .i64 (tkCode T'.length A'.length)]) ∧
      SPost w sb nv xs N (if tkCode T'.length A'.length = 0 then T' else T) (if tkCode T'.length A'.length = 0 then A' else A) (if tkCode T'.length A'.length = 0 then nF + 1 else nF) K w' := by
  have HC := hide (p_Formula s w hs h.ps.tab hhd)
  have HOK := hide (whole_shape h.ok hr)
  have HFL := hide (whole_ok hs hr).2
  obtain ⟨ys, hfo⟩ := h.fown
  obtain ⟨fa, fc, e1⟩ := row_shape hfo
  have htf := h.tfew
  have haf := h.afew
  have kb := h.p.ts.blk
  have c0 := cell_of_block kb 0
  have hsb := block_lt kb
  have KB := hide kb
  have H := hide h
  have HR := hide hr
  have HLT := hide h.lt
  clear h hs hhd hr hfo kb
  go_enter Tryz.func25, Tryz.ntmps25
  go_wp2_with fail
  refine HC.out.mono ?_
  rintro en w1 ⟨hx1, hm⟩
  rw [HR.out] at hm
  obtain ⟨k', wd', v', pa', pn', pc', rfl, hpn⟩ := hm
  have kb1 := (hx1.block sb hsb (fun f => f)).trans KB.out
  rw [e1] at kb1
  have c5 := cell_of_block kb1 5
  have hl1 := block_lt kb1
  have hne : ¬ sb = w1.heap.size := by omega
  obtain ⟨V, hV⟩ : ∃ V, w1.alloc (.cells #[.int .i64 k', .string wd', .int .i64 v', .slice pa' pn' pc'] 115) = V := ⟨_, rfl⟩
  have hxV : Ext (fun _ => False) w V := by rw [← hV]; exact hx1.alloc _
  have hs1 := hx1.size
  have hVs : V.heap.size = w1.heap.size + 1 := by rw [← hV]; simp
  have hPV0 := H.out.ext hxV (fun _ _ f => f)
  have hpnV0 : PN V (fun k => w.heap.size ≤ k ∧ k < w1.heap.size) [.int .i64 k', .string wd', .int .i64 v', .slice pa' pn' pc'] nd := hpn.within.ext (by rw [← hV]; exact (Ext.refl (fun _ => False) w1).alloc _) (fun _ _ _ f => f)
  have HC2 : Hid (∀ W, Ext (fun _ => False) V W → Calls Tryz.prog 48 #[.pointer (some ⟨sb, 1, none⟩), .agg #[.int .i64 k', .string wd', .int .i64 v', .slice pa' pn' pc']] W (TkPost W sb nv xs T A nd)) := fun W hW =>
    take_any HOK.out HFL.out (hpnV0.ext hW (fun _ _ _ f => f)) (fun k hk => by have := hW.size; omega) (fun k hk hp => by have := HLT.out k (.inl hp); omega) (hPV0.ext hW (fun _ _ f => f)).p htf haf
  have HPV := hide hPV0
  have HXV := hide hxV
  have HV := hide hV
  have kN : V.heap[w1.heap.size]? = some (.cells #[.int .i64 k', .string wd', .int .i64 v', .slice pa' pn' pc'] 115) := by rw [← hV]; exact heap_alloc_new w1 _
  have m0 := cell_of_block kN 0
  have m1 := cell_of_block kN 1
  have m2 := cell_of_block kN 2
  have m3 := cell_of_block kN 3
  clear hx1 hxV hPV0 hpnV0 hV hpn kb1 kN c0
  go_wp2_with fail
  rw [HV.out]
  go_region_law (go_simp; go_wp2_with (go_at_call 48; first | (refine (HC2.out V.drew ((Ext.refl (fun _ => False) V).drew)).mono ?_; rintro e w2 ⟨T2, A2, hT2, hA2, ⟨rk, rw', ri, rpa, rpn, rpc, rfl⟩, hap⟩; have HT2 := hide hT2; have HA2 := hide hA2; have HXB : Hid (Ext (fun _ => False) V V.drew) := (Ext.refl (fun _ => False) V).drew; have HAP := hide hap; clear hT2 hA2 hap) | (refine (HC2.out (V.alloc (.cells #[.int .i64 0, .string ⟨#[]⟩, .int .i64 0, .slice none 0 0] 112)).drew (((Ext.refl (fun _ => False) V).alloc _).drew)).mono ?_; rintro e w2 ⟨T2, A2, hT2, hA2, ⟨rk, rw', ri, rpa, rpn, rpc, rfl⟩, hap⟩; have HT2 := hide hT2; have HA2 := hide hA2; have kz : w2.heap[w1.heap.size + 1]? = some (.cells #[.int .i64 0, .string ⟨#[]⟩, .int .i64 0, .slice none 0 0] 112) := zb_kept HLT.out (by omega) hVs hap; have KZ := hide kz; have y0 := cell_of_block kz 0; have y1 := cell_of_block kz 1; have y2 := cell_of_block kz 2; have y3 := cell_of_block kz 3; have x0 := frozen_of_block kz 0; have x1 := frozen_of_block kz 1; have x2 := frozen_of_block kz 2; have x3 := frozen_of_block kz 3; have HXB : Hid (Ext (fun _ => False) V (V.alloc (.cells #[.int .i64 0, .string ⟨#[]⟩, .int .i64 0, .slice none 0 0] 112)).drew) := ((Ext.refl (fun _ => False) V).alloc _).drew; have HAP := hide hap; clear hT2 hA2 hap kz)))
  all_goals
    obtain ⟨cd, hcd⟩ : ∃ cd, tkCode T2.length A2.length = cd := ⟨_, rfl⟩
    have hap := HAP.out
    rw [hcd] at hap
    rw [hcd]
    have HCD := hide hcd
    have hTA : (if cd = 0 then T2 else T).length ≤ 12 ∧ (if cd = 0 then A2 else A).length ≤ 16 := by
      by_cases h0 : cd = 0
      · rw [if_pos h0, if_pos h0]
        rw [h0] at hcd
        unfold tkCode at hcd
        by_cases h1 : 12 < T2.length
        · rw [if_pos h1] at hcd; exact absurd hcd (by decide)
        · rw [if_neg h1] at hcd
          by_cases h2 : 16 < A2.length
          · rw [if_pos h2] at hcd; exact absurd hcd (by decide)
          · omega
      · rw [if_neg h0, if_neg h0]
        exact ⟨htf, haf⟩
    obtain ⟨xs3, hP3, he5, he6, hG3⟩ := pss_pool (HPV.out.ext HXB.out (fun _ _ f => f)) hap hTA.1 hTA.2
    have hGB := Goes.of_ext (HXV.out.trans HXB.out) hG3
    have kb2 := hP3.p.ts.blk
    rw [he5, e1] at kb2
    have hl2 := block_lt kb2
    have hsz2 : V.heap.size ≤ w2.heap.size := Nat.le_trans HXB.out.size hG3.1.size
    have hne2 : ¬ sb = w2.heap.size := by omega
    have hne3 : ¬ sb = w1.heap.size + 1 := by omega
    have HP3 := hide hP3
    have HGB := hide hGB
    have HG3 := hide hG3.2
    have KB2 := hide kb2
    clear hap hcd hTA hP3 hG3 hGB kb2
    first
      | (obtain ⟨W, hW⟩ : ∃ W, (((w2.setCell ⟨w1.heap.size + 1, 0, none⟩ (.int .i64 rk)).setCell ⟨w1.heap.size + 1, 1, none⟩ (.string rw')).setCell ⟨w1.heap.size + 1, 2, none⟩ (.int .i64 ri)).setCell ⟨w1.heap.size + 1, 3, none⟩ (.slice rpa rpn rpc) = W := ⟨_, rfl⟩
         have HWX : Hid (Ext (fun k => k = w1.heap.size + 1) w2 W) := by rw [← hW]; exact (((((Ext.refl (fun k => k = w1.heap.size + 1) w2).setCell (p := ⟨w1.heap.size + 1, 0, none⟩) (fun _ => rfl) _).setCell (p := ⟨w1.heap.size + 1, 1, none⟩) (fun _ => rfl) _).setCell (p := ⟨w1.heap.size + 1, 2, none⟩) (fun _ => rfl) _).setCell (p := ⟨w1.heap.size + 1, 3, none⟩) (fun _ => rfl) _)
         have KT : Hid (W.heap[w1.heap.size + 1]? = some (.cells #[.int .i64 rk, .string rw', .int .i64 ri, .slice rpa rpn rpc] 112)) := by rw [← hW]; exact block_setCell (block_setCell (block_setCell (block_setCell KZ.out 0 _) 1 _) 2 _) 3 _
         have HPW : Hid (PSS W sb N nv xs3 (if cd = 0 then T2 else T) (if cd = 0 then A2 else A) nF K ∧ Goes w sb nv xs nv xs3 W) := by
           have hno : ∀ k, SF sb nv xs3 k → ¬ k = w1.heap.size + 1 := zb_free HLT.out hs1 hVs HG3.out
           exact ⟨HP3.out.ext HWX.out hno, HGB.out.1.trans' HWX.out (fun k hk e => by omega), HGB.out.2⟩
         rw [hW]
         clear hW)
      | (obtain ⟨W, hW⟩ : ∃ W, w2.alloc (.cells #[.int .i64 rk, .string rw', .int .i64 ri, .slice rpa rpn rpc] 112) = W := ⟨_, rfl⟩
         have HWX : Hid (Ext (fun _ => False) w2 W) := by rw [← hW]; exact (Ext.refl _ w2).alloc _
         have KT : Hid (W.heap[w2.heap.size]? = some (.cells #[.int .i64 rk, .string rw', .int .i64 ri, .slice rpa rpn rpc] 112)) := by rw [← hW]; exact heap_alloc_new w2 _
         have HPW : Hid (PSS W sb N nv xs3 (if cd = 0 then T2 else T) (if cd = 0 then A2 else A) nF K ∧ Goes w sb nv xs nv xs3 W) := ⟨HP3.out.ext HWX.out (fun _ _ f => f), HGB.out.ext HWX.out⟩
         rw [hW]
         clear hW)
    by_cases hc0 : cd = 0
    · subst hc0
      have hpw := HPW.out
      rw [if_pos rfl, if_pos rfl] at hpw
      have HPW2 := hide hpw
      have kbW := hpw.1.p.ts.blk
      obtain ⟨zs, hfoW⟩ := hpw.1.fown
      have hzl := hfoW.1
      rw [he5, e1] at kbW hfoW
      have w5 := cell_of_block kbW 5
      have hlW := block_lt kbW
      have hneW : ¬ sb = W.heap.size := by omega
      have t0 := cell_of_block KT.out 0
      have t1 := cell_of_block KT.out 1
      have t2 := cell_of_block KT.out 2
      have t3 := cell_of_block KT.out 3
      have hlT := block_lt KT.out
      have KBW := hide kbW
      have HFO := hide hfoW
      have HSB : Hid (∀ k, (Value.slice fa nF fc).ownBlock = some k → ¬ k = sb) := fun k hk e => (hpw.1.f1 k (by rw [he5, e1]; exact hk)).1 (.inl (.inl e))
      have HFB : Hid (∀ k, (Value.slice fa nF fc).ownBlock = some k → k < w.heap.size) := fun k hk => HLT.out k (.inr (.inr (.inl (by rw [e1]; exact hk))))
      obtain ⟨i0, hi, hz0, hz1, hz2⟩ := info_parts infoFml
      have hlt1 : (nF : Int) < (nF : Int) + 1 := by omega
      clear hpw kbW hfoW
      go_wp2_with fail
      go_region_law ((refine step_append_lies _ (by rfl) _ _ _ (by rfl) 0 112 i0 _ 4 56 Tryz.underlying89 hi hz0 hz1 hz2 rfl (by omega) (.slice fa nF fc) nF zs (by rfl) ((HFO.out.alloc _).drew) ⟨W.heap.size, 0, none⟩ 1 1 [.int .i64 0, .string ⟨#[]⟩, .int .i64 0, .slice none 0 0] (by rfl) (by rfl) (World.news_of_block (cs := #[.int .i64 0, .string ⟨#[]⟩, .int .i64 0, .slice none 0 0]) (t := 112) (fr := (0, 0)) (heap_alloc_new W _)) (by simp [Value.oneCell']) (by omega) (by unfold maxLen; omega) (by omega) (Nat.zero_le _) (W.heap.size + 1) (by simp) ?_; intro g cap' w3 hown3 hgrow hat hlt3; have kb3 : w3.heap[sb]? = some (.cells #[nv, xs3.ts, xs3.tm, xs3.at_, xs3.am, .slice fa nF fc, xs3.ks, xs3.vd, xs3.ml] 98) := (hgrow.block sb (by simp; omega) (fun e => HSB.out sb e.symm rfl)).trans ((Below.heap_alloc W _ sb hlW).trans KBW.out); have d5 := cell_of_block kb3 5; have d5f := frozen_of_block kb3 5; have kt3 := (hgrow.block _ (by simp; omega) (fun e => by have := HFB.out _ e.symm; omega)).trans ((Below.heap_alloc W _ _ hlT).trans KT.out); have q0 := cell_of_block kt3 0; have q1 := cell_of_block kt3 1; have q2 := cell_of_block kt3 2; have q3 := cell_of_block kt3 3; obtain ⟨u0, u1, u2, u3⟩ := row_at hown3 (by omega); have hrc := row_cell hown3; have p0 := (hrc (nF * 4) (by omega)).2; have p1 := (hrc (nF * 4 + 1) (by omega)).2; have p2 := (hrc (nF * 4 + 2) (by omega)).2; have p3 := (hrc (nF * 4 + 3) (by omega)).2; have hgs : ¬ g = sb := fun e => hat.elim (fun e2 => HSB.out g e2 e) (fun e2 => (by omega)); have hgs2 : ¬ sb = g := fun e => hgs e.symm; clear hrc kt3))
      all_goals
        go_wp2_with fail
        have hgr : (W.alloc (.cells #[.int .i64 0, .string ⟨#[]⟩, .int .i64 0, .slice none 0 0] 112)).drew.grownBy w3 xs3.fs.ownBlock := by rw [he5, e1]; exact hgrow
        have hat2 : xs3.fs.ownBlock = some g ∨ W.heap.size ≤ g := by rw [he5, e1]; exact hat.imp id (fun e => by omega)
        have h0x : Ext (fun _ => False) W (W.alloc (.cells #[.int .i64 0, .string ⟨#[]⟩, .int .i64 0, .slice none 0 0] 112)).drew := ((Ext.refl _ W).alloc _).drew
        have hpp := HPW2.out.1
        have hgg := HPW2.out.2
        first
          | with_reducible refine (spost_forget (asrt_finA _ _ _ _ _ _ _ _ hpp hgg hf h0x hgr hat2 hown3 hgs2 kb3)).mono ?_
          | with_reducible refine (spost_forget (asrt_finB _ _ _ _ _ _ _ _ hpp hgg hf h0x hgr hat2 hown3 hgs2 kb3)).mono ?_
        rintro e w9 ⟨rfl, h9⟩
        have H9 := hide h9
        clear h9 hgr hat2 h0x hpp hgg
        go_wp2_with fail
        go_ret2
        refine ⟨T2, A2, HT2.out, HA2.out, by rw [HCD.out]; rfl, ?_⟩
        rw [HCD.out, if_pos rfl, if_pos rfl, if_pos rfl]
        exact H9.out
    · have hc0' : (cd == 0) = false := by simpa using hc0
      go_wp2_with fail
      go_ret2
      have hpw := HPW.out
      refine ⟨T2, A2, HT2.out, HA2.out, by rw [HCD.out]; rfl, ?_⟩
      rw [HCD.out, if_neg hc0, if_neg hc0, if_neg hc0]
      rw [if_neg hc0, if_neg hc0] at hpw
      exact ⟨hpw.2.1, nv, xs3, hpw.1, hpw.2.2⟩
end

end Go.Proofs.YtegbdaffhpiacaaGreatDoor

/- Plain: what both sides of a stack of frames have in common. -/
namespace Go.Proofs.YtegbdaffhpiacaaGreatDoor
open Ar

/-- The terms (t), or the atoms, of formulas, each once. -/
structure Once (t : Bool) (T : List Nd) (L : List (Nd × Int)) : Prop where
  nd : T.Nodup
  mem : ∀ x, x ∈ T ↔ ∃ p ∈ L, x ∈ subs t p.1

/-- A frame's counts: what was there when it was pushed. -/
structure Fit (N : List Nm) (L : List (Nd × Int)) (T A : List Nd) (F : Int) (k : Fr4) : Prop where
  n : k.n ≤ N.length
  f : k.f ≤ L.length
  t : k.t ≤ T.length
  a : k.a ≤ A.length
  ns : N.take k.n = N.filter (fun x => decide (x.fr < F))
  fs : L.take k.f = L.filter (fun x => decide (x.2 < F))
  ts : Once true (T.take k.t) (L.take k.f)
  aw : Once false (A.take k.a) (L.take k.f)

def Fr4.le (j k : Fr4) : Prop := j.n ≤ k.n ∧ j.t ≤ k.t ∧ j.a ≤ k.a ∧ j.f ≤ k.f

structure Stk (N : List Nm) (L : List (Nd × Int)) (T A : List Nd) (K : List Fr4) : Prop where
  ts : Once true T L
  aw : Once false A L
  ok : ∀ p ∈ L, FmOk p.1
  nfr : ∀ x ∈ N, x.fr ≤ K.length
  lfr : ∀ p ∈ L, p.2 ≤ K.length
  fit : ∀ (j : Nat) (k : Fr4), K[j]? = some k → Fit N L T A ((j : Int) + 1) k
  up : K.Pairwise Fr4.le

theorem Once.nil (t : Bool) : Once t [] [] := ⟨List.nodup_nil, fun x => by simp⟩

theorem stk_new : Stk [] [] [] [] [] := ⟨Once.nil _, Once.nil _, by simp, by simp, by simp, by simp, List.Pairwise.nil⟩

theorem filter_snoc_no {α : Type} {p : α → Bool} {l : List α} {x : α} (h : p x = false) : (l ++ [x]).filter p = l.filter p := by simp [h]

theorem take_snoc {α : Type} {l m : List α} {n : Nat} (h : n ≤ l.length) : (l ++ m).take n = l.take n := by
  rw [List.take_append_of_le_length h]

theorem lt_of_get {α : Type} {l : List α} {i : Nat} {x : α} (h : l[i]? = some x) : i < l.length := (List.getElem?_eq_some_iff.1 h).1

theorem Stk.name {N : List Nm} {L : List (Nd × Int)} {T A : List Nd} {K : List Fr4} (h : Stk N L T A K) (s : ByteArray) (a : Int) : Stk (N ++ [⟨s, a, K.length⟩]) L T A K where
  ts := h.ts
  aw := h.aw
  ok := h.ok
  nfr := by
    intro x hx
    rcases List.mem_append.1 hx with hx | hx
    · exact h.nfr x hx
    · simp at hx; subst hx; exact Int.le_refl _
  lfr := h.lfr
  fit := by
    intro j k hk
    have hf := h.fit j k hk
    have hj := lt_of_get hk
    exact ⟨by have := hf.n; simp; omega, hf.f, hf.t, hf.a, by rw [take_snoc hf.n, filter_snoc_no (by simp; omega)]; exact hf.ns, hf.fs, hf.ts, hf.aw⟩
  up := h.up

theorem Stk.decl {N : List Nm} {L : List (Nd × Int)} {T A : List Nd} {K : List Fr4} (h : Stk N L T A K) (s : ByteArray) (a : Int) : Stk (declNames N K.length s a) L T A K := by
  unfold declNames
  by_cases e : declCode N s.toList a = 0
  · rw [if_pos e]; exact h.name s a
  · rw [if_neg e]; exact h

theorem filter_all {α : Type} {p : α → Bool} {l : List α} (h : ∀ x ∈ l, p x = true) : l.filter p = l := List.filter_eq_self.2 h

theorem Stk.push {N : List Nm} {L : List (Nd × Int)} {T A : List Nd} {K : List Fr4} (h : Stk N L T A K) : Stk N L T A (K ++ [⟨N.length, T.length, A.length, L.length⟩]) where
  ts := h.ts
  aw := h.aw
  ok := h.ok
  nfr := fun x hx => by have := h.nfr x hx; simp; omega
  lfr := fun x hx => by have := h.lfr x hx; simp; omega
  fit := by
    intro j k hk
    by_cases hj : j < K.length
    · rw [List.getElem?_append_left hj] at hk
      exact h.fit j k hk
    · have hl := lt_of_get hk
      simp at hl
      have e : j = K.length := by omega
      subst e
      simp at hk
      subst hk
      refine ⟨Nat.le_refl _, Nat.le_refl _, Nat.le_refl _, Nat.le_refl _, ?_, ?_, ?_, ?_⟩
      · rw [List.take_length, filter_all (fun x hx => by have := h.nfr x hx; simp; omega)]
      · rw [List.take_length, filter_all (fun x hx => by have := h.lfr x hx; simp; omega)]
      · simp only [List.take_length]; exact h.ts
      · simp only [List.take_length]; exact h.aw
  up := by
    rw [List.pairwise_append]
    refine ⟨h.up, List.pairwise_singleton _ _, fun a ha b hb => ?_⟩
    simp at hb
    subst hb
    obtain ⟨j, hj, e⟩ := List.getElem_of_mem ha
    have hf := h.fit j a (by rw [← e]; exact List.getElem?_eq_getElem hj)
    exact ⟨hf.n, hf.t, hf.a, hf.f⟩

theorem Stk.pop {N : List Nm} {L : List (Nd × Int)} {T A : List Nd} {K : List Fr4} {k : Fr4} (h : Stk N L T A (K ++ [k])) : Stk (N.take k.n) (L.take k.f) (T.take k.t) (A.take k.a) K ∧ N.take k.n = N.filter (fun x => decide (x.fr < (K.length : Int) + 1)) ∧ L.take k.f = L.filter (fun x => decide (x.2 < (K.length : Int) + 1)) := by
  have hl := h.fit K.length k (by simp)
  refine ⟨⟨hl.ts, hl.aw, fun p hp => h.ok p (List.mem_of_mem_take hp), fun x hx => ?_, fun x hx => ?_, fun j q hq => ?_, (List.pairwise_append.1 h.up).1⟩, hl.ns, hl.fs⟩
  · rw [hl.ns, List.mem_filter] at hx
    have := hx.2
    simp at this
    omega
  · rw [hl.fs, List.mem_filter] at hx
    have := hx.2
    simp at this
    omega
  · have hj := lt_of_get hq
    have hf := h.fit j q (by rw [List.getElem?_append_left hj]; exact hq)
    have hle : Fr4.le q k := (List.pairwise_append.1 h.up).2.2 q (List.mem_of_getElem? hq) k (by simp)
    obtain ⟨l1, l2, l3, l4⟩ := hle
    have en : (N.take k.n).take q.n = N.take q.n := by rw [List.take_take, Nat.min_eq_left l1]
    have ef : (L.take k.f).take q.f = L.take q.f := by rw [List.take_take, Nat.min_eq_left l4]
    have et : (T.take k.t).take q.t = T.take q.t := by rw [List.take_take, Nat.min_eq_left l2]
    have ea : (A.take k.a).take q.a = A.take q.a := by rw [List.take_take, Nat.min_eq_left l3]
    refine ⟨?_, ?_, ?_, ?_, ?_, ?_, ?_, ?_⟩
    · rw [List.length_take]; have := hl.n; omega
    · rw [List.length_take]; have := hl.f; omega
    · rw [List.length_take]; have := hl.t; omega
    · rw [List.length_take]; have := hl.a; omega
    · rw [en, hf.ns, hl.ns, List.filter_filter]
      refine List.filter_congr (fun x _ => ?_)
      by_cases hx : x.fr < (j : Int) + 1
      · have : x.fr < (K.length : Int) + 1 := by omega
        simp [hx, this]
      · simp [hx]
    · rw [ef, hf.fs, hl.fs, List.filter_filter]
      refine List.filter_congr (fun x _ => ?_)
      by_cases hx : x.2 < (j : Int) + 1
      · have : x.2 < (K.length : Int) + 1 := by omega
        simp [hx, this]
      · simp [hx]
    · rw [et, ef]; exact hf.ts
    · rw [ea, ef]; exact hf.aw

theorem Once.snoc {t : Bool} {T T' : List Nd} {L : List (Nd × Int)} {nd : Nd} {F : Int} (h : Once t T L) (hn : T'.Nodup) (ha : AddsP T T' (subs t nd)) : Once t T' (L ++ [(nd, F)]) := by
  refine ⟨hn, fun x => ?_⟩
  rw [ha.mem, h.mem]
  constructor
  · rintro (⟨p, hp, hx⟩ | hx)
    · exact ⟨p, by simp [hp], hx⟩
    · exact ⟨(nd, F), by simp, hx⟩
  · rintro ⟨p, hp, hx⟩
    rcases List.mem_append.1 hp with hp | hp
    · exact .inl ⟨p, hp, hx⟩
    · simp at hp; subst hp; exact .inr hx

theorem take_pre {α : Type} {l m : List α} {n : Nat} (h : l <+: m) (hn : n ≤ l.length) : m.take n = l.take n := by
  obtain ⟨r, rfl⟩ := h
  exact take_snoc hn

theorem Stk.take {N : List Nm} {L : List (Nd × Int)} {T A T' A' : List Nd} {K : List Fr4} {nd : Nd} (h : Stk N L T A K) (hok : FmOk nd) (hT : AddsP T T' (subs true nd)) (hA : AddsP A A' (subs false nd)) (hTn : T'.Nodup) (hAn : A'.Nodup) : Stk N (L ++ [(nd, (K.length : Int))]) T' A' K where
  ts := h.ts.snoc hTn hT
  aw := h.aw.snoc hAn hA
  ok := by
    intro p hp
    rcases List.mem_append.1 hp with hp | hp
    · exact h.ok p hp
    · simp at hp; subst hp; exact hok
  nfr := h.nfr
  lfr := by
    intro p hp
    rcases List.mem_append.1 hp with hp | hp
    · exact h.lfr p hp
    · simp at hp; subst hp; exact Int.le_refl _
  fit := by
    intro j k hk
    have hf := h.fit j k hk
    have hj := lt_of_get hk
    have e1 : (L ++ [(nd, (K.length : Int))]).take k.f = L.take k.f := take_snoc hf.f
    refine ⟨hf.n, by have := hf.f; simp; omega, Nat.le_trans hf.t hT.pre.length_le, Nat.le_trans hf.a hA.pre.length_le, hf.ns, ?_, ?_, ?_⟩
    · rw [e1, filter_snoc_no (by simp; omega)]; exact hf.fs
    · rw [e1, take_pre hT.pre hf.t]; exact hf.ts
    · rw [e1, take_pre hA.pre hf.a]; exact hf.aw
  up := h.up

theorem once_count {t : Bool} {T T' : List Nd} {L : List (Nd × Int)} {nd : Nd} (h : Once t T L) (hok : ∀ p ∈ L, FmOk p.1) (hnd : FmOk nd) (hn : T'.Nodup) (ha : AddsP T T' (subs t nd)) : cnt t (L.map Prod.fst) nd = T'.length := by
  unfold cnt
  have hm : ∀ x, x ∈ T' ↔ x ∈ subsAll t (L.map Prod.fst ++ [nd]) := by
    intro x
    rw [(h.snoc (F := 0) hn ha).mem, mem_subsAll]
    constructor
    · rintro ⟨p, hp, hx⟩
      rcases List.mem_append.1 hp with hp | hp
      · exact ⟨p.1, by simp; exact .inl ⟨p.2, hp⟩, hx⟩
      · simp at hp; subst hp; exact ⟨nd, by simp, hx⟩
    · rintro ⟨q, hq, hx⟩
      rcases List.mem_append.1 hq with hq | hq
      · obtain ⟨p, hp, rfl⟩ := List.mem_map.1 hq
        exact ⟨p, by simp [hp], hx⟩
      · simp at hq; subst hq; exact ⟨(q, 0), by simp, hx⟩
  have hall : ∀ q ∈ L.map Prod.fst ++ [nd], FmOk q := by
    intro q hq
    rcases List.mem_append.1 hq with hq | hq
    · obtain ⟨p, hp, rfl⟩ := List.mem_map.1 hq
      exact hok p hp
    · simp at hq; subst hq; exact hnd
  refine count_eq hn hm (fun x hx y hy e => ?_)
  obtain ⟨p, hp, hx⟩ := mem_subsAll.1 hx
  obtain ⟨q, hq, hy⟩ := mem_subsAll.1 hy
  have fp := form_subs (hall p hp)
  have fq := form_subs (hall q hq)
  cases t with
  | true => exact term_form (fp.1 x hx) (fq.1 y hy) e
  | false => exact atom_form (fp.2 x hx) (fq.2 y hy) e

end Go.Proofs.YtegbdaffhpiacaaGreatDoor

/- Plain: an atom's terms stand where it stands. -/
namespace Go.Proofs.YtegbdaffhpiacaaGreatDoor
open Ar

theorem atom_ends {f : Nd} (h : FmOk f) : ∀ x ∈ subs false f, ∀ p ∈ ends x, p ∈ subs true f := by
  induction h with
  | truth _ => intro x hx; simp [subs, subsAll, isIt] at hx
  | con _ hp ih =>
    intro x hx p hpx
    simp only [subs] at hx ⊢
    rw [if_neg (by simp [isIt])] at hx
    rw [if_neg (by simp [isIt])]
    obtain ⟨q, hq, hx⟩ := mem_subsAll.1 (by simpa using hx)
    simpa using mem_subsAll.2 ⟨q, hq, ih q hq x hx p hpx⟩
  | two hw ha hb =>
    intro x hx p hpx
    simp [subs, subsAll, isIt, term_atoms ha, term_atoms hb] at hx
    subst hx
    simp [ends, parts] at hpx
    simp [subs, subsAll, isIt]
    rcases hpx with rfl | rfl
    · exact .inl (term_self ha)
    · exact .inr (term_self hb)
  | le hw ha hb h1 h2 =>
    intro x hx p hpx
    simp [subs, subsAll, isIt, term_atoms ha, term_atoms hb] at hx
    subst hx
    simp [ends, parts] at hpx
    simp [subs, subsAll, isIt]
    rcases hpx with rfl | rfl
    · exact .inl (term_self ha)
    · exact .inr (term_self hb)

theorem once_ac {T A : List Nd} {L : List (Nd × Int)} (hT : Once true T L) (hA : Once false A L) (hok : ∀ p ∈ L, FmOk p.1) : AC T A := by
  intro x hx
  obtain ⟨q, hq, hs⟩ := (hA.mem x).1 hx
  exact ⟨(form_subs (hok q hq)).2 x hs, fun p hp => (hT.mem p).2 ⟨q, hq, atom_ends (hok q hq) x hs p hp⟩⟩

theorem Stk.ac {N : List Nm} {L : List (Nd × Int)} {T A : List Nd} {K : List Fr4} {k : Fr4} (h : Stk N L T A (K ++ [k])) : AC (T.take k.t) (A.take k.a) := by
  have hl := h.fit K.length k (by simp)
  exact once_ac hl.ts hl.aw (fun p hp => h.ok p (List.mem_of_mem_take hp))

/-- What Assert answers, by what the pool holds behind it. -/
theorem asOut_code {N : List Nm} {L : List (Nd × Int)} {T A T' A' : List Nd} {K : List Fr4} {s : ByteArray} {nd : Nd} {us : List Tk} (h : Stk N L T A K) (hs : s.size ≤ 600) (hr : rdWhole N s.toList = .ok nd us) (hok : FmOk nd) (hf : L.length < 20) (hT : AddsP T T' (subs true nd)) (hA : AddsP A A' (subs false nd)) (hTn : T'.Nodup) (hAn : A'.Nodup) :
    asOut N (L.map Prod.fst) s = (0, tkCode T'.length A'.length, if tkCode T'.length A'.length = 0 then some nd else none) := by
  unfold asOut
  rw [if_neg (by omega), hr]
  simp only
  rw [if_neg (by simp; omega), once_count h.ts h.ok hok hTn hT, once_count h.aw h.ok hok hAn hA]
  unfold tkCode
  by_cases h1 : 12 < T'.length
  · simp [h1]
  · by_cases h2 : 16 < A'.length
    · simp [h1, h2]
    · simp [h1, h2]

theorem asOut_long {N : List Nm} {Q : List Nd} {s : ByteArray} (hs : 600 < s.size) : asOut N Q s = (0, 1, none) := by
  unfold asOut
  rw [if_pos hs]

theorem asOut_no {N : List Nm} {Q : List Nd} {s : ByteArray} {e : Int} {p : Nat} (hs : s.size ≤ 600) (hr : rdWhole N s.toList = .no e p) : asOut N Q s = ((p : Int), e, none) := by
  unfold asOut
  rw [if_neg (by omega), hr]

theorem asOut_full {N : List Nm} {Q : List Nd} {s : ByteArray} {nd : Nd} {us : List Tk} (hs : s.size ≤ 600) (hr : rdWhole N s.toList = .ok nd us) (hf : 20 ≤ Q.length) : asOut N Q s = (0, 8, none) := by
  unfold asOut
  rw [if_neg (by omega), hr]
  simp only
  rw [if_pos hf]

end Go.Proofs.YtegbdaffhpiacaaGreatDoor

/- A session of the program beside one of the document, with formulas and frames. -/
namespace Go.Proofs.YtegbdaffhpiacaaGreatDoor
open Go.RowKit Ar

/-- The blocks of a session of the document. -/
def RF (rs : Nat) (rv lv : Value) (D : Nat → Prop) (k : Nat) : Prop := k = rs ∨ rv.ownBlock = some k ∨ lv.ownBlock = some k ∨ D k

theorem RefT.lt {w : World} {rs : Nat} {N : List Nm} {X : List Ld} {rv lv : Value} {F : Int} {D : Nat → Prop} (h : RefT w rs N X rv lv F D) : ∀ k, RF rs rv lv D k → k < w.heap.size := by
  obtain ⟨ans, hb⟩ := h.s.blk
  rintro k (rfl | e | e | e)
  · exact block_lt hb
  · exact (h.s.own.lt k e).2
  · exact (h.own.lt k e).2
  · exact h.dlt k e

theorem RefT.ext2 {S : Nat → Prop} {w w' : World} {rs : Nat} {N : List Nm} {X : List Ld} {rv lv : Value} {F : Int} {D : Nat → Prop} (h : RefT w rs N X rv lv F D) (hx : Ext S w w') (hS : ∀ k, RF rs rv lv D k → ¬ S k) : RefT w' rs N X rv lv F D :=
  h.ext hx (hS _ (.inl rfl)) (fun _ hg => hS _ (.inr (.inl hg))) (fun _ hg => hS _ (.inr (.inr (.inl hg)))) (fun _ hk => hS _ (.inr (.inr (.inr hk))))

/-- The blocks of a pair. -/
def Ft (ps rs : Nat) (pv : Value) (xs : PX) (rv lv : Value) (D : Nat → Prop) (k : Nat) : Prop := SF ps pv xs k ∨ RF rs rv lv D k

structure PairT (w : World) (ps rs : Nat) (N : List Nm) (L : List (Nd × Int)) (T A : List Nd) (K : List Fr4) (X : List Ld) (pv : Value) (xs : PX) (rv lv : Value) (D : Nat → Prop) : Prop where
  p : PSS w ps N pv xs T A L.length K
  r : RefT w rs N X rv lv K.length D
  e : X.map Ld.pl = L
  st : Stk N L T A K
  n0 : ∃ x ∈ N, x.fr < 1
  ap : ∀ k, SF ps pv xs k → ¬ RF rs rv lv D k

def StG (ps rs : Nat) (w : World) (F : Nat → Prop) : Prop := ∃ N L T A K X pv xs rv lv D, PairT w ps rs N L T A K X pv xs rv lv D ∧ F = Ft ps rs pv xs rv lv D

section
variable {w w' : World} {ps rs : Nat} {N : List Nm} {L : List (Nd × Int)} {T A : List Nd} {K : List Fr4} {X : List Ld} {pv : Value} {xs : PX} {rv lv : Value} {D : Nat → Prop}

theorem PairT.ext {S : Nat → Prop} (h : PairT w ps rs N L T A K X pv xs rv lv D) (hx : Ext S w w') (hS : ∀ k, Ft ps rs pv xs rv lv D k → ¬ S k) : PairT w' ps rs N L T A K X pv xs rv lv D :=
  ⟨h.p.ext hx (fun k hk => hS k (.inl hk)), h.r.ext2 hx (fun k hk => hS k (.inr hk)), h.e, h.st, h.n0, h.ap⟩

theorem PairT.lt (h : PairT w ps rs N L T A K X pv xs rv lv D) : ∀ k, Ft ps rs pv xs rv lv D k → k < w.heap.size := fun k hk => hk.elim (h.p.lt k) (h.r.lt k)

theorem PairT.pos (h : PairT w ps rs N L T A K X pv xs rv lv D) : 0 < N.length := by
  obtain ⟨x, hx, _⟩ := h.n0
  exact List.length_pos_of_mem hx

/-- What a call leaves of a session of the document. -/
def RPost (w : World) (rs : Nat) (rv lv : Value) (D : Nat → Prop) (N' : List Nm) (L' : List (Nd × Int)) (F' : Int) (w' : World) : Prop :=
  Ext (RF rs rv lv D) w w' ∧ ∃ X' rv' lv' D', RefT w' rs N' X' rv' lv' F' D' ∧ X'.map Ld.pl = L' ∧ ∀ k, RF rs rv' lv' D' k → RF rs rv lv D k ∨ w.heap.size ≤ k

theorem RPost.more {w w1 w2 w3 : World} {N' : List Nm} {L' : List (Nd × Int)} {F' : Int} (hx : Ext (fun _ => False) w w1) (h : RPost w1 rs rv lv D N' L' F' w2) (hy : Ext (fun _ => False) w2 w3) : RPost w rs rv lv D N' L' F' w3 := by
  obtain ⟨h1, X', rv', lv', D', h2, h3, h4⟩ := h
  exact ⟨((hx.mono (fun _ _ f => f.elim)).trans h1).trans' hy (fun _ _ f => f.elim), X', rv', lv', D', h2.ext2 hy (fun _ _ f => f), h3, fun k hk => (h4 k hk).imp id (fun e => Nat.le_trans hx.size e)⟩

theorem SPost.more {w w1 w2 w3 : World} {N' : List Nm} {T' A' : List Nd} {nF' : Nat} {K' : List Fr4} (hx : Ext (fun _ => False) w w1) (h : SPost w1 ps pv xs N' T' A' nF' K' w2) (hy : Ext (fun _ => False) w2 w3) : SPost w ps pv xs N' T' A' nF' K' w3 := by
  obtain ⟨h1, nv', xs', h2, h3⟩ := h
  exact ⟨((hx.mono (fun _ _ f => f.elim)).trans h1).trans' hy (fun _ _ f => f.elim), nv', xs', h2.ext hy (fun _ _ f => f), fun k hk => (h3 k hk).imp id (fun e => Nat.le_trans hx.size e)⟩

/-- A call of the one, then of the other. -/
theorem pairT_done {w1 w2 : World} {N' : List Nm} {L' : List (Nd × Int)} {T' A' : List Nd} {K' : List Fr4} (h : PairT w ps rs N L T A K X pv xs rv lv D) (h1 : SPost w ps pv xs N' T' A' L'.length K' w1) (h2 : RPost w1 rs rv lv D N' L' K'.length w2) (st : Stk N' L' T' A' K') (n0 : ∃ x ∈ N', x.fr < 1) :
    StepPost StG ps rs w (Ft ps rs pv xs rv lv D) (.returned (.bool true)) w2 := by
  obtain ⟨hx1, pv', xs', hp, hF1⟩ := h1
  obtain ⟨hx2, X', rv', lv', D', hr, he, hF2⟩ := h2
  have s1 := hx1.size
  have hap : ∀ k, SF ps pv' xs' k → ¬ RF rs rv lv D k := by
    intro k hk hr'
    rcases hF1 k hk with e | e
    · exact h.ap k e hr'
    · have := h.r.lt k hr'; omega
  refine ⟨rfl, (hx1.mono (fun _ _ f => .inl f)).trans' hx2 (fun _ _ f => .inr f), Ft ps rs pv' xs' rv' lv' D', ⟨N', L', T', A', K', X', pv', xs', rv', lv', D', ⟨hp.ext hx2 hap, hr, he, st, n0, ?_⟩, rfl⟩, ?_⟩
  · intro k hk hk'
    rcases hF2 k hk' with e | e
    · exact hap k hk e
    · have := hp.lt k hk; omega
  · rintro k (hk | hk)
    · exact (hF1 k hk).imp .inl id
    · exact (hF2 k hk).imp .inr (fun e => by omega)

/-- The document's session, behind a call of the program's. -/
theorem PairT.r1 {w1 : World} {N' : List Nm} {nF' : Nat} {T' A' : List Nd} {K' : List Fr4} (h : PairT w ps rs N L T A K X pv xs rv lv D) (h1 : SPost w ps pv xs N' T' A' nF' K' w1) : RefT w1 rs N X rv lv K.length D :=
  h.r.ext2 h1.1 (fun k hk hs => h.ap k hs hk)

theorem as_rpost {w w' : World} {F : Int} {s : ByteArray} {e : Ending} (h : AsPost w rs N X rv lv F D s e w') : e = .returned (.tuple #[.int .i64 (asOut N (nds X) s).1, .int .i64 (asOut N (nds X) s).2.1]) ∧ RPost w rs rv lv D N (X.map Ld.pl ++ optL (asOut N (nds X) s).2.2 F) F w' := by
  obtain ⟨h1, h2, X', lv', D', h3, h4, h5, h6⟩ := h
  refine ⟨h1, h2.mono (fun k _ f => f.elim .inl (fun e => .inr (.inr (.inl e)))), X', rv, lv', D', h3, h4, ?_⟩
  rintro k (e | e | e | e)
  · exact .inl (.inl e)
  · exact .inl (.inr (.inl e))
  · exact (h5 k e).imp (fun e => .inr (.inr (.inl e))) id
  · exact (h6 k e).imp (fun e => .inr (.inr (.inr e))) id

theorem push_rpost {w w' : World} {F : Int} {e : Ending} (h : PushPost w rs N X rv lv F D e w') : e = .returned (.int .i64 (if 20 ≤ F then 8 else 0)) ∧ RPost w rs rv lv D N (X.map Ld.pl) (if 20 ≤ F then F else F + 1) w' := by
  obtain ⟨h1, h2, h3⟩ := h
  exact ⟨h1, h2.mono (fun k _ f => .inl f), X, rv, lv, D, h3, rfl, fun k hk => .inl hk⟩

theorem keepX_pl (F : Int) (X : List Ld) : (keepX F X).map Ld.pl = (X.map Ld.pl).filter (fun p => decide (p.2 < F)) := by
  unfold keepX
  rw [List.filter_map]
  rfl

theorem pop_rpost {w w' : World} {F : Int} {e : Ending} (h : PopPost w rs N X F D e w') : e = .returned (.int .i64 0) ∧ RPost w rs rv lv D (N.filter (fun x => decide (x.fr < F))) ((X.map Ld.pl).filter (fun p => decide (p.2 < F))) (F - 1) w' := by
  obtain ⟨h1, h2, nv', lv', h3, h4, h5⟩ := h
  refine ⟨h1, h2.mono (fun k _ f => .inl f), keepX F X, nv', lv', D, h3, keepX_pl F X, ?_⟩
  rintro k (e | e | e | e)
  · exact .inl (.inl e)
  · exact .inr (h4 k e)
  · exact .inr (h5 k e)
  · exact .inl (.inr (.inr (.inr e)))

theorem RefT.same {w : World} {F : Int} (h : RefT w rs N X rv lv F D) : RPost w rs rv lv D N (X.map Ld.pl) F w := ⟨Ext.refl _ _, X, rv, lv, D, h, rfl, fun _ hk => .inl hk⟩

theorem PSS.same {w : World} {nF : Nat} (h : PSS w ps N pv xs T A nF K) : SPost w ps pv xs N T A nF K w := ⟨Ext.refl _ _, pv, xs, h, fun _ hk => .inl hk⟩

theorem nds_pl (X : List Ld) : nds X = (X.map Ld.pl).map Prod.fst := by
  unfold nds
  rw [List.map_map]
  rfl

end
end Go.Proofs.YtegbdaffhpiacaaGreatDoor

/- The law: a step of Push, Pop, Count. -/
namespace Go.Proofs.YtegbdaffhpiacaaGreatDoor
open Go.RowKit Ar

theorem StepPost.of_new {G : Nat → Nat → World → (Nat → Prop) → Prop} {ps rs : Nat} {w W : World} {F : Nat → Prop} {e : Ending} {w' : World} (hx : Ext (fun _ => False) w W) (h : StepPost G ps rs W F e w') : StepPost G ps rs w F e w' := by
  obtain ⟨he, h1, F', h2, h3⟩ := h
  exact ⟨he, (hx.mono (fun _ _ f => f.elim)).trans h1, F', h2, fun k hk => (h3 k hk).imp id (fun e => Nat.le_trans hx.size e)⟩

section
variable {w : World} {ps rs : Nat} {N : List Nm} {L : List (Nd × Int)} {T A : List Nd} {K : List Fr4} {X : List Ld} {pv : Value} {xs : PX} {rv lv : Value} {D : Nat → Prop}

set_option maxRecDepth 100000 in
set_option maxHeartbeats 400000 in
theorem stacks_push (on : Int) (s : ByteArray) (a : Int) (h : PairT w ps rs N L T A K X pv xs rv lv D) :
    Calls Tryz.prog 54 #[.agg #[.pointer (some ⟨ps, 0, none⟩), .pointer (some ⟨rs, 0, none⟩)], .agg #[.int .i64 4, .int .i64 on, .string s, .int .i64 a]] w (StepPost StG ps rs w (Ft ps rs pv xs rv lv D)) := by
  have H := hide h
  clear h
  go_enter Tryz.func54, Tryz.ntmps54
  go_wp2_with fail
  obtain ⟨W, hW⟩ : ∃ W, (w.alloc (.cells #[.pointer (some ⟨ps, 0, none⟩), .pointer (some ⟨rs, 0, none⟩)] 57)).alloc (.cells #[.int .i64 4, .int .i64 on, .string s, .int .i64 a] 66) = W := ⟨_, rfl⟩
  have hxW : Ext (fun _ => False) w W := by rw [← hW]; exact ((Ext.refl _ w).alloc _).alloc _
  have kA : W.heap[w.heap.size]? = some (.cells #[.pointer (some ⟨ps, 0, none⟩), .pointer (some ⟨rs, 0, none⟩)] 57) := by rw [← hW, heap_alloc_old _ _ (by simp)]; exact heap_alloc_new w _
  rw [hW]
  clear hW
  have hI := H.out.ext hxW (fun _ _ f => f)
  have HI := hide hI
  have HXW := hide hxW
  have HLT := hide H.out.lt
  have HE := hide hI.e
  have hlp : ∀ k, SF ps pv xs k → k < w.heap.size := fun k hk => HLT.out k (.inl hk)
  by_cases hk : K.length < 20
  · refine (p_push hI.p hk).mono ?_
    clear hI hxW
    rintro e w1 ⟨rfl, hp⟩
    have kA1 := (hp.1.block _ (block_lt kA) (fun h => by have := hlp _ h; omega)).trans kA
    have a1 := cell_of_block kA1 1
    have HP := hide hp
    have HR := hide (HI.out.r1 hp)
    clear hp kA kA1 hlp
    go_wp2_with fail
    go_region_law (go_simp; go_wp2_with (first | (go_at_call 80; refine (num_any _ _).mono ?_; rintro e w' ⟨rfl, rfl⟩) | (go_at_call 83; refine (ref_push (HR.out.ext2 ((Ext.refl (fun _ => False) w1).drew) (fun _ _ f => f))).mono ?_; intro e w2 hq0; obtain ⟨rfl, hq1⟩ := push_rpost hq0; have HQ := hide hq1; clear hq0 hq1; rw [if_neg (by omega)])))
    all_goals
      go_wp2_with fail
      go_ret
      have hq := HQ.out
      rw [if_neg (by omega), HE.out] at hq
      refine StepPost.of_new HXW.out (pairT_done HI.out HP.out (RPost.more ((Ext.refl (fun _ => False) w1).drew) (by simpa using hq) (Ext.refl _ _)) HI.out.st.push HI.out.n0)
  · refine (p_push_full hI.p (by omega)).mono ?_
    clear hI hxW
    rintro e w1 ⟨rfl, rfl⟩
    have a1 := cell_of_block kA 1
    have HR := hide HI.out.r
    clear kA hlp
    go_wp2_with fail
    go_region_law (go_simp; go_wp2_with (first | (go_at_call 80; refine (num_any _ _).mono ?_; rintro e w' ⟨rfl, rfl⟩) | (go_at_call 83; refine (ref_push (HR.out.ext2 ((Ext.refl (fun _ => False) w1).drew) (fun _ _ f => f))).mono ?_; intro e w2 hq0; obtain ⟨rfl, hq1⟩ := push_rpost hq0; have HQ := hide hq1; clear hq0 hq1; rw [if_pos (by omega)])))
    all_goals
      go_wp2_with fail
      go_ret
      have hq := HQ.out
      rw [if_pos (by omega), HE.out] at hq
      refine StepPost.of_new HXW.out (pairT_done HI.out HI.out.p.same (RPost.more ((Ext.refl (fun _ => False) w1).drew) hq (Ext.refl _ _)) HI.out.st HI.out.n0)

set_option maxRecDepth 100000 in
set_option maxHeartbeats 400000 in
theorem stacks_pop (on : Int) (s : ByteArray) (a : Int) (h : PairT w ps rs N L T A K X pv xs rv lv D) :
    Calls Tryz.prog 54 #[.agg #[.pointer (some ⟨ps, 0, none⟩), .pointer (some ⟨rs, 0, none⟩)], .agg #[.int .i64 5, .int .i64 on, .string s, .int .i64 a]] w (StepPost StG ps rs w (Ft ps rs pv xs rv lv D)) := by
  have H := hide h
  clear h
  go_enter Tryz.func54, Tryz.ntmps54
  go_wp2_with fail
  obtain ⟨W, hW⟩ : ∃ W, (w.alloc (.cells #[.pointer (some ⟨ps, 0, none⟩), .pointer (some ⟨rs, 0, none⟩)] 57)).alloc (.cells #[.int .i64 5, .int .i64 on, .string s, .int .i64 a] 66) = W := ⟨_, rfl⟩
  have hxW : Ext (fun _ => False) w W := by rw [← hW]; exact ((Ext.refl _ w).alloc _).alloc _
  have kA : W.heap[w.heap.size]? = some (.cells #[.pointer (some ⟨ps, 0, none⟩), .pointer (some ⟨rs, 0, none⟩)] 57) := by rw [← hW, heap_alloc_old _ _ (by simp)]; exact heap_alloc_new w _
  rw [hW]
  clear hW
  have hI := H.out.ext hxW (fun _ _ f => f)
  have HI := hide hI
  have HXW := hide hxW
  have HLT := hide H.out.lt
  have HE := hide hI.e
  have hlp : ∀ k, SF ps pv xs k → k < w.heap.size := fun k hk => HLT.out k (.inl hk)
  rcases List.eq_nil_or_concat K with hk | ⟨K0, fr, hk⟩
  · subst hk
    refine (p_pop_none hI.p).mono ?_
    clear hI hxW
    rintro e w1 ⟨rfl, rfl⟩
    have a1 := cell_of_block kA 1
    have HR := hide HI.out.r
    clear kA hlp
    go_wp2_with fail
    go_region_law (go_simp; go_wp2_with (first | (go_at_call 80; refine (num_any _ _).mono ?_; rintro e w' ⟨rfl, rfl⟩) | (go_at_call 84; refine (ref_pop_none (HR.out.ext2 ((Ext.refl (fun _ => False) w1).drew) (fun _ _ f => f))).mono ?_; rintro e w2 ⟨rfl, rfl⟩)))
    all_goals
      go_wp2_with fail
      go_ret
      have hq := HI.out.r.same
      rw [HE.out] at hq
      exact StepPost.of_new HXW.out (pairT_done HI.out HI.out.p.same (RPost.more (Ext.refl _ _) hq ((Ext.refl (fun _ => False) w1).drew)) HI.out.st HI.out.n0)
  · rw [List.concat_eq_append] at hk
    subst hk
    have hst := HI.out.st
    have hfit := hst.fit K0.length fr (by simp)
    obtain ⟨hst2, hkn, hkf⟩ := hst.pop
    refine (p_pop hI.p hfit.n hfit.t hfit.a hfit.f hst.ac).mono ?_
    clear hI hxW
    rintro e w1 ⟨rfl, hp⟩
    have kA1 := (hp.1.block _ (block_lt kA) (fun h => by have := hlp _ h; omega)).trans kA
    have a1 := cell_of_block kA1 1
    have hfl : (L.take fr.f).length = fr.f := by rw [List.length_take]; have := hfit.f; omega
    rw [← hfl] at hp
    have HP := hide hp
    have HR := hide (HI.out.r1 hp)
    have HST := hide hst2
    have HKN := hide hkn
    have HKF := hide hkf
    have HN0 : Hid (∃ x ∈ N.take fr.n, x.fr < 1) := by
      obtain ⟨x, hx, hx1⟩ := HI.out.n0
      refine ⟨x, ?_, hx1⟩
      rw [hkn, List.mem_filter]
      exact ⟨hx, by simp; omega⟩
    clear hp kA kA1 hlp hst hfit hst2 hkn hkf hfl
    go_wp2_with fail
    go_region_law (go_simp; go_wp2_with (first | (go_at_call 80; refine (num_any _ _).mono ?_; rintro e w' ⟨rfl, rfl⟩) | (go_at_call 84; refine (ref_pop (HR.out.ext2 ((Ext.refl (fun _ => False) w1).drew) (fun _ _ f => f)) (by rw [List.length_append, List.length_singleton]; omega)).mono ?_; intro e w2 hq0; obtain ⟨rfl, hq1⟩ := pop_rpost (rv := rv) (lv := lv) hq0; have HQ := hide hq1; clear hq0 hq1)))
    all_goals
      go_wp2_with fail
      go_ret
      have hq := HQ.out
      rw [HE.out] at hq
      have e3 : (((K0 ++ [fr]).length : Nat) : Int) = (K0.length : Int) + 1 := by simp
      rw [e3, ← HKN.out, ← HKF.out, show (K0.length : Int) + 1 - 1 = K0.length by omega] at hq
      exact StepPost.of_new HXW.out (pairT_done HI.out HP.out (RPost.more ((Ext.refl (fun _ => False) w1).drew) hq (Ext.refl _ _)) HST.out HN0.out)

set_option maxRecDepth 100000 in
set_option maxHeartbeats 400000 in
theorem stacks_count (on : Int) (s : ByteArray) (a : Int) (h : PairT w ps rs N L T A K X pv xs rv lv D) :
    Calls Tryz.prog 54 #[.agg #[.pointer (some ⟨ps, 0, none⟩), .pointer (some ⟨rs, 0, none⟩)], .agg #[.int .i64 6, .int .i64 on, .string s, .int .i64 a]] w (StepPost StG ps rs w (Ft ps rs pv xs rv lv D)) := by
  have H := hide h
  clear h
  go_enter Tryz.func54, Tryz.ntmps54
  go_wp2_with fail
  obtain ⟨W, hW⟩ : ∃ W, (w.alloc (.cells #[.pointer (some ⟨ps, 0, none⟩), .pointer (some ⟨rs, 0, none⟩)] 57)).alloc (.cells #[.int .i64 6, .int .i64 on, .string s, .int .i64 a] 66) = W := ⟨_, rfl⟩
  have hxW : Ext (fun _ => False) w W := by rw [← hW]; exact ((Ext.refl _ w).alloc _).alloc _
  have kA : W.heap[w.heap.size]? = some (.cells #[.pointer (some ⟨ps, 0, none⟩), .pointer (some ⟨rs, 0, none⟩)] 57) := by rw [← hW, heap_alloc_old _ _ (by simp)]; exact heap_alloc_new w _
  rw [hW]
  clear hW
  have hI := H.out.ext hxW (fun _ _ f => f)
  have HI := hide hI
  have HXW := hide hxW
  have HLT := hide H.out.lt
  have HE := hide hI.e
  have hlp : ∀ k, SF ps pv xs k → k < w.heap.size := fun k hk => HLT.out k (.inl hk)
  refine (p_count hI.p).mono ?_
  clear hI hxW
  rintro e w1 ⟨rfl, hx1⟩
  have kA1 := (hx1.block _ (block_lt kA) (fun f => f)).trans kA
  have a1 := cell_of_block kA1 1
  obtain ⟨ans, hb⟩ := HI.out.r.s.blk
  have kb1 := (hx1.block _ (block_lt hb) (fun f => f)).trans hb
  obtain ⟨la, lc, hlv, _⟩ := HI.out.r.row
  have hXL : X.length = L.length := by rw [← HE.out]; simp
  rw [hlv, hXL] at kb1
  have r1 := cell_of_block kb1 1
  have r2 := cell_of_block kb1 2
  have HX1 := hide hx1
  clear hx1 kA kA1 hlp hb kb1
  go_wp2_with fail
  go_ret
  have hI1 := HI.out.ext HX1.out (fun _ _ f => f)
  have hq := hI1.r.same
  rw [HE.out] at hq
  exact StepPost.of_new (HXW.out.trans HX1.out) (pairT_done hI1 hI1.p.same hq hI1.st hI1.n0)

end
end Go.Proofs.YtegbdaffhpiacaaGreatDoor

/- The law: a step of Declare, of Tidy, of a pair with frames. -/
namespace Go.Proofs.YtegbdaffhpiacaaGreatDoor
open Go.RowKit Ar

section
variable {w : World} {ps rs : Nat} {N : List Nm} {L : List (Nd × Int)} {T A : List Nd} {K : List Fr4} {X : List Ld} {pv : Value} {xs : PX} {rv lv : Value} {D : Nat → Prop}

theorem decl_spost {w' : World} {F : Int} {s : ByteArray} {a : Int} {nF : Nat} {e : Ending} (h : PSS w ps N pv xs T A nF K) (hd : PDeclG w ps N pv xs F s a e w') : e = .returned (.int .i64 (declCode N s.toList a)) ∧ SPost w ps pv xs (declNames N F s a) T A nF K w' := by
  obtain ⟨h1, h2, nv', h3, h4⟩ := hd
  by_cases h0 : declCode N s.toList a = 0
  · rw [if_pos h0] at h3
    obtain ⟨h5, h6⟩ := pss_names2 h h3.blk h3.own h3.few h3.ok h2 h4
    exact ⟨h1, h6.1, nv', xs.fg, h5, h6.2⟩
  · rw [if_neg h0] at h3
    obtain ⟨h5, h6⟩ := pss_names2 h h3.blk h3.own h3.few h3.ok h2 h4
    exact ⟨h1, h6.1, nv', xs, h5, h6.2⟩

theorem decl_rpost {w' : World} {F : Int} {s : ByteArray} {a : Int} {e : Ending} (h : RefT w rs N X rv lv F D) (hd : DeclPost w rs N rv lv F s a e w') : e = .returned (.int .i64 (declCode N s.toList a)) ∧ RPost w rs rv lv D (declNames N F s a) (X.map Ld.pl) F w' := by
  obtain ⟨h1, h2, nv', h3, h4⟩ := hd
  have hlt := h.lt
  have hs : ∀ k, RF rs rv lv D k → ¬ k = rs → ¬ rv.ownBlock = some k → ¬ (k = rs ∨ rv.ownBlock = some k) := fun k _ a b e => e.elim a b
  refine ⟨h1, h2.mono (fun k _ f => f.elim .inl (fun e => .inr (.inl e))), X, nv', lv, D, ⟨h3, ?_, ?_, h.ok, h.few, h.f0, h.f20, h.lsb, ?_, fun k hk => Nat.lt_of_lt_of_le (h.dlt k hk) h2.size, h.dsb, ?_, h.dlv⟩, rfl, ?_⟩
  · exact own_ext h.own h2 (fun g hg e => e.elim (h.lsb g hg) (h.lnv g hg))
  · exact fun x hx => (h.rn x hx).ext h2 (fun k _ hk e => e.elim (fun e => h.dsb (e ▸ hk)) (fun e => h.dnv k e hk))
  · intro g hg e
    rcases h4 g e with f | f
    · exact h.lnv g hg f
    · have := hlt g (.inr (.inr (.inl hg))); omega
  · intro g hg hk
    rcases h4 g hg with f | f
    · exact h.dnv g f hk
    · have := h.dlt g hk; omega
  · rintro k (e | e | e | e)
    · exact .inl (.inl e)
    · exact (h4 k e).imp (fun e => .inr (.inl e)) id
    · exact .inl (.inr (.inr (.inl e)))
    · exact .inl (.inr (.inr (.inr e)))

theorem decl_n0 {F : Int} {s : ByteArray} {a : Int} (h : ∃ x ∈ N, x.fr < 1) : ∃ x ∈ declNames N F s a, x.fr < 1 := by
  obtain ⟨x, hx, h1⟩ := h
  refine ⟨x, ?_, h1⟩
  unfold declNames
  split
  · exact List.mem_append_left _ hx
  · exact hx

set_option maxRecDepth 100000 in
set_option maxHeartbeats 400000 in
theorem stk_decl (on : Int) (s : ByteArray) (a : Int) (h : PairT w ps rs N L T A K X pv xs rv lv D) (hs : s.size ≤ maxLen) :
    Calls Tryz.prog 53 #[.agg #[.pointer (some ⟨ps, 0, none⟩), .pointer (some ⟨rs, 0, none⟩)], .agg #[.int .i64 1, .int .i64 on, .string s, .int .i64 a]] w (StepPost StG ps rs w (Ft ps rs pv xs rv lv D)) := by
  have H := hide h
  clear h
  go_enter Tryz.func53, Tryz.ntmps53
  go_wp2_with fail
  obtain ⟨W, hW⟩ : ∃ W, (w.alloc (.cells #[.pointer (some ⟨ps, 0, none⟩), .pointer (some ⟨rs, 0, none⟩)] 57)).alloc (.cells #[.int .i64 1, .int .i64 on, .string s, .int .i64 a] 66) = W := ⟨_, rfl⟩
  have hxW : Ext (fun _ => False) w W := by rw [← hW]; exact ((Ext.refl _ w).alloc _).alloc _
  have hWs : W.heap.size = w.heap.size + 2 := by rw [← hW]; simp
  have kA : W.heap[w.heap.size]? = some (.cells #[.pointer (some ⟨ps, 0, none⟩), .pointer (some ⟨rs, 0, none⟩)] 57) := by rw [← hW, heap_alloc_old _ _ (by simp)]; exact heap_alloc_new w _
  have kB : W.heap[w.heap.size + 1]? = some (.cells #[.int .i64 1, .int .i64 on, .string s, .int .i64 a] 66) := by rw [← hW]; exact heap_alloc2_new w _ _
  rw [hW]
  clear hW
  have hI := H.out.ext hxW (fun _ _ f => f)
  have HI := hide hI
  have HXW := hide hxW
  have hlp : ∀ k, SF ps pv xs k → k < w.heap.size := fun k hk => H.out.lt k (.inl hk)
  refine (p_declareG K.length s a hI.p.ps hs).mono ?_
  clear hI hxW
  rintro e w1 hd
  obtain ⟨rfl, hp⟩ := decl_spost HI.out.p hd
  have kA1 := (hp.1.block _ (block_lt kA) (fun h => by have := hlp _ h; omega)).trans kA
  have kB1 := (hp.1.block _ (block_lt kB) (fun h => by have := hlp _ h; omega)).trans kB
  have a1 := cell_of_block kA1 1
  have b2 := cell_of_block kB1 2
  have b3 := cell_of_block kB1 3
  have HP := hide hp
  have HR := hide (HI.out.r1 hp)
  clear hd hp kA kB kA1 kB1 hlp
  go_wp2_with fail
  refine (ref_declare s a HR.out.s hs).mono ?_
  rintro e w2 hd2
  obtain ⟨rfl, hq⟩ := decl_rpost HR.out hd2
  rw [HI.out.e] at hq
  have HQ := hide hq
  clear hd2 hq a1 b2 b3
  go_wp2_with (go_at_call 80; refine (num_any _ _).mono ?_; rintro e w' ⟨rfl, rfl⟩)
  go_ret
  exact StepPost.of_new HXW.out (pairT_done HI.out HP.out HQ.out (HI.out.st.decl s a) (decl_n0 HI.out.n0))

set_option maxRecDepth 100000 in
set_option maxHeartbeats 400000 in
theorem stk_tidy (on : Int) (s : ByteArray) (a : Int) (h : PairT w ps rs N L T A K X pv xs rv lv D) (hs : s.size ≤ maxLen) (hhd : HdLaid w) (hten : TenLaid w) :
    Calls Tryz.prog 53 #[.agg #[.pointer (some ⟨ps, 0, none⟩), .pointer (some ⟨rs, 0, none⟩)], .agg #[.int .i64 2, .int .i64 on, .string s, .int .i64 a]] w (StepPost StG ps rs w (Ft ps rs pv xs rv lv D)) := by
  have H := hide h
  have HHD := hide hhd
  have HTEN := hide hten
  have hne := h.pos
  clear h hhd hten
  go_enter Tryz.func53, Tryz.ntmps53
  go_wp2_with fail
  obtain ⟨W, hW⟩ : ∃ W, (w.alloc (.cells #[.pointer (some ⟨ps, 0, none⟩), .pointer (some ⟨rs, 0, none⟩)] 57)).alloc (.cells #[.int .i64 2, .int .i64 on, .string s, .int .i64 a] 66) = W := ⟨_, rfl⟩
  have hxW : Ext (fun _ => False) w W := by rw [← hW]; exact ((Ext.refl _ w).alloc _).alloc _
  have kA : W.heap[w.heap.size]? = some (.cells #[.pointer (some ⟨ps, 0, none⟩), .pointer (some ⟨rs, 0, none⟩)] 57) := by rw [← hW, heap_alloc_old _ _ (by simp)]; exact heap_alloc_new w _
  have kB : W.heap[w.heap.size + 1]? = some (.cells #[.int .i64 2, .int .i64 on, .string s, .int .i64 a] 66) := by rw [← hW]; exact heap_alloc2_new w _ _
  rw [hW]
  clear hW
  have hI := H.out.ext hxW (fun _ _ f => f)
  have HI := hide hI
  have HXW := hide hxW
  refine (p_tidy s W hs hI.p.ps.tab (HHD.out.ext hxW (fun f => f)) (HTEN.out.ext hxW (fun f => f))).mono ?_
  clear hI hxW
  rintro e w1 ⟨X1, rfl, hX, hx1⟩
  have kA1 := (hx1.block _ (block_lt kA) (fun f => f)).trans kA
  have kB1 := (hx1.block _ (block_lt kB) (fun f => f)).trans kB
  have a1 := cell_of_block kA1 1
  have b2 := cell_of_block kB1 2
  have HX1 := hide hx1
  have HX := hide hX
  clear hx1 hX kA kB kA1 kB1
  go_wp2_with fail
  refine (ref_tidy s (HI.out.ext HX1.out (fun _ _ f => f)).r.s hne hs).mono ?_
  rintro e w2 ⟨Y, rfl, hY, hx2⟩
  have hXY : Y = X1 := bytes_ext (hY.trans HX.out.symm)
  subst hXY
  have HX2 := hide hx2
  clear hx2 hY a1 b2
  go_wp2_with (go_at_call 80; refine (num_any _ _).mono ?_; rintro e w' ⟨rfl, rfl⟩)
  go_ret
  have hx := (HXW.out.trans HX1.out).trans HX2.out
  have hI2 := H.out.ext hx (fun _ _ f => f)
  have hq := hI2.r.same
  rw [hI2.e] at hq
  exact StepPost.of_new hx (pairT_done hI2 hI2.p.same hq hI2.st hI2.n0)

end
end Go.Proofs.YtegbdaffhpiacaaGreatDoor

/- The law: a step of any kind but Assert, of a pair with frames. -/
namespace Go.Proofs.YtegbdaffhpiacaaGreatDoor
open Go.RowKit Ar

section
variable {w : World} {ps rs : Nat} {N : List Nm} {L : List (Nd × Int)} {T A : List Nd} {K : List Fr4} {X : List Ld} {pv : Value} {xs : PX} {rv lv : Value} {D : Nat → Prop}

set_option maxRecDepth 100000 in
set_option maxHeartbeats 400000 in
theorem stepT_decl (on : Int) (s : ByteArray) (a : Int) (bk : Value) (h : PairT w ps rs N L T A K X pv xs rv lv D) (hs : s.size ≤ maxLen) :
    Calls Tryz.prog 34 #[.agg #[.pointer (some ⟨ps, 0, none⟩), .pointer (some ⟨rs, 0, none⟩)], .agg #[.int .i64 1, .int .i64 on, .string s, .int .i64 a], bk] w (StepPost StG ps rs w (Ft ps rs pv xs rv lv D)) := by
  have H := hide h
  clear h
  go_enter Tryz.func34, Tryz.ntmps34
  go_wp2_with fail
  obtain ⟨W, hW⟩ : ∃ W, (w.alloc (.cells #[.pointer (some ⟨ps, 0, none⟩), .pointer (some ⟨rs, 0, none⟩)] 57)).alloc (.cells #[.int .i64 1, .int .i64 on, .string s, .int .i64 a] 66) = W := ⟨_, rfl⟩
  have hxW : Ext (fun _ => False) w W := by rw [← hW]; exact ((Ext.refl _ w).alloc _).alloc _
  rw [hW]
  clear hW
  refine (stk_decl on s a (H.out.ext hxW (fun _ _ f => f)) hs).mono ?_
  rintro e w1 hp
  have hp1 := hp.of_new hxW
  obtain ⟨rfl, hp2⟩ := hp1
  have HP2 := hide hp2
  clear hp hp2 hxW
  go_wp2_with fail
  go_ret
  exact ⟨rfl, HP2.out⟩

set_option maxRecDepth 100000 in
set_option maxHeartbeats 400000 in
theorem stepT_tidy (on : Int) (s : ByteArray) (a : Int) (bk : Value) (h : PairT w ps rs N L T A K X pv xs rv lv D) (hs : s.size ≤ maxLen) (hhd : HdLaid w) (hten : TenLaid w) :
    Calls Tryz.prog 34 #[.agg #[.pointer (some ⟨ps, 0, none⟩), .pointer (some ⟨rs, 0, none⟩)], .agg #[.int .i64 2, .int .i64 on, .string s, .int .i64 a], bk] w (StepPost StG ps rs w (Ft ps rs pv xs rv lv D)) := by
  have H := hide h
  clear h
  have HHD := hide hhd
  have HTEN := hide hten
  clear hhd hten
  go_enter Tryz.func34, Tryz.ntmps34
  go_wp2_with fail
  obtain ⟨W, hW⟩ : ∃ W, (w.alloc (.cells #[.pointer (some ⟨ps, 0, none⟩), .pointer (some ⟨rs, 0, none⟩)] 57)).alloc (.cells #[.int .i64 2, .int .i64 on, .string s, .int .i64 a] 66) = W := ⟨_, rfl⟩
  have hxW : Ext (fun _ => False) w W := by rw [← hW]; exact ((Ext.refl _ w).alloc _).alloc _
  rw [hW]
  clear hW
  refine (stk_tidy on s a (H.out.ext hxW (fun _ _ f => f)) hs (HHD.out.ext hxW (fun f => f)) (HTEN.out.ext hxW (fun f => f))).mono ?_
  rintro e w1 hp
  have hp1 := hp.of_new hxW
  obtain ⟨rfl, hp2⟩ := hp1
  have HP2 := hide hp2
  clear hp hp2 hxW
  go_wp2_with fail
  go_ret
  exact ⟨rfl, HP2.out⟩

set_option maxRecDepth 100000 in
set_option maxHeartbeats 400000 in
theorem stepT_push (on : Int) (s : ByteArray) (a : Int) (bk : Value) (h : PairT w ps rs N L T A K X pv xs rv lv D) :
    Calls Tryz.prog 34 #[.agg #[.pointer (some ⟨ps, 0, none⟩), .pointer (some ⟨rs, 0, none⟩)], .agg #[.int .i64 4, .int .i64 on, .string s, .int .i64 a], bk] w (StepPost StG ps rs w (Ft ps rs pv xs rv lv D)) := by
  have H := hide h
  clear h
  go_enter Tryz.func34, Tryz.ntmps34
  go_wp2_with fail
  obtain ⟨W, hW⟩ : ∃ W, (w.alloc (.cells #[.pointer (some ⟨ps, 0, none⟩), .pointer (some ⟨rs, 0, none⟩)] 57)).alloc (.cells #[.int .i64 4, .int .i64 on, .string s, .int .i64 a] 66) = W := ⟨_, rfl⟩
  have hxW : Ext (fun _ => False) w W := by rw [← hW]; exact ((Ext.refl _ w).alloc _).alloc _
  rw [hW]
  clear hW
  refine (stacks_push on s a (H.out.ext hxW (fun _ _ f => f))).mono ?_
  rintro e w1 hp
  have hp1 := hp.of_new hxW
  obtain ⟨rfl, hp2⟩ := hp1
  have HP2 := hide hp2
  clear hp hp2 hxW
  go_wp2_with fail
  go_ret
  exact ⟨rfl, HP2.out⟩

set_option maxRecDepth 100000 in
set_option maxHeartbeats 400000 in
theorem stepT_pop (on : Int) (s : ByteArray) (a : Int) (bk : Value) (h : PairT w ps rs N L T A K X pv xs rv lv D) :
    Calls Tryz.prog 34 #[.agg #[.pointer (some ⟨ps, 0, none⟩), .pointer (some ⟨rs, 0, none⟩)], .agg #[.int .i64 5, .int .i64 on, .string s, .int .i64 a], bk] w (StepPost StG ps rs w (Ft ps rs pv xs rv lv D)) := by
  have H := hide h
  clear h
  go_enter Tryz.func34, Tryz.ntmps34
  go_wp2_with fail
  obtain ⟨W, hW⟩ : ∃ W, (w.alloc (.cells #[.pointer (some ⟨ps, 0, none⟩), .pointer (some ⟨rs, 0, none⟩)] 57)).alloc (.cells #[.int .i64 5, .int .i64 on, .string s, .int .i64 a] 66) = W := ⟨_, rfl⟩
  have hxW : Ext (fun _ => False) w W := by rw [← hW]; exact ((Ext.refl _ w).alloc _).alloc _
  rw [hW]
  clear hW
  refine (stacks_pop on s a (H.out.ext hxW (fun _ _ f => f))).mono ?_
  rintro e w1 hp
  have hp1 := hp.of_new hxW
  obtain ⟨rfl, hp2⟩ := hp1
  have HP2 := hide hp2
  clear hp hp2 hxW
  go_wp2_with fail
  go_ret
  exact ⟨rfl, HP2.out⟩

set_option maxRecDepth 100000 in
set_option maxHeartbeats 400000 in
theorem stepT_count (on : Int) (s : ByteArray) (a : Int) (bk : Value) (h : PairT w ps rs N L T A K X pv xs rv lv D) :
    Calls Tryz.prog 34 #[.agg #[.pointer (some ⟨ps, 0, none⟩), .pointer (some ⟨rs, 0, none⟩)], .agg #[.int .i64 6, .int .i64 on, .string s, .int .i64 a], bk] w (StepPost StG ps rs w (Ft ps rs pv xs rv lv D)) := by
  have H := hide h
  clear h
  go_enter Tryz.func34, Tryz.ntmps34
  go_wp2_with fail
  obtain ⟨W, hW⟩ : ∃ W, (w.alloc (.cells #[.pointer (some ⟨ps, 0, none⟩), .pointer (some ⟨rs, 0, none⟩)] 57)).alloc (.cells #[.int .i64 6, .int .i64 on, .string s, .int .i64 a] 66) = W := ⟨_, rfl⟩
  have hxW : Ext (fun _ => False) w W := by rw [← hW]; exact ((Ext.refl _ w).alloc _).alloc _
  rw [hW]
  clear hW
  refine (stacks_count on s a (H.out.ext hxW (fun _ _ f => f))).mono ?_
  rintro e w1 hp
  have hp1 := hp.of_new hxW
  obtain ⟨rfl, hp2⟩ := hp1
  have HP2 := hide hp2
  clear hp hp2 hxW
  go_wp2_with fail
  go_ret
  exact ⟨rfl, HP2.out⟩

set_option maxRecDepth 100000 in
set_option maxHeartbeats 400000 in
theorem stepT_none (k on : Int) (s : ByteArray) (a : Int) (bk : Value) (h : PairT w ps rs N L T A K X pv xs rv lv D) (hk : k ≤ 0) :
    Calls Tryz.prog 34 #[.agg #[.pointer (some ⟨ps, 0, none⟩), .pointer (some ⟨rs, 0, none⟩)], .agg #[.int .i64 k, .int .i64 on, .string s, .int .i64 a], bk] w (StepPost StG ps rs w (Ft ps rs pv xs rv lv D)) := by
  have H := hide h
  have e1 : (k == 1) = false := by simp; omega
  have e2 : (k == 2) = false := by simp; omega
  have e3 : (k == 3) = false := by simp; omega
  have e4 : (k == 4) = false := by simp; omega
  have e5 : (k == 5) = false := by simp; omega
  have e6 : (k == 6) = false := by simp; omega
  have e7 : (k == 7) = false := by simp; omega
  have e8 : (k == 8) = false := by simp; omega
  have e9 : (k == 9) = false := by simp; omega
  have HX : Hid (Ext (fun _ => False) w ((w.alloc (.cells #[.pointer (some ⟨ps, 0, none⟩), .pointer (some ⟨rs, 0, none⟩)] 57)).alloc (.cells #[.int .i64 k, .int .i64 on, .string s, .int .i64 a] 66))) := ((Ext.refl _ w).alloc _).alloc _
  clear h hk
  go_enter Tryz.func34, Tryz.ntmps34
  go_wp2_with fail
  go_ret
  exact ⟨rfl, HX.out.mono (fun _ _ f => f.elim), _, ⟨N, L, T, A, K, X, pv, xs, rv, lv, D, H.out.ext HX.out (fun _ _ f => f), rfl⟩, fun k hk => .inl hk⟩

end
end Go.Proofs.YtegbdaffhpiacaaGreatDoor
