/- The law: a script is played; What the program's start has laid: the table of first words; a script as it lies in memory. -/
import Derived.Test.YtihpglkehkgioaaGreatDoorOwn44
import Derived.Test.YtihpglkehkgioaaGreatDoorOwn11
import Derived.Test.YtihpglkehkgioaaGreatDoorRows
import Derived.Lib.LaidTab
import Derived.Lib.SmallJoins
import Derived.ProofKit
import Derived.OpenShut
import Derived.Deep.Strs
/- The law: a script is played. -/
namespace Go.Proofs.YtihpglkehkgioaaGreatDoor
open Go.RowKit Ar

theorem mid_start {most : Int} {G : Nat → Nat → World → (Nat → Prop) → Prop} (hG : Game most G) {W w1 v1 w2 : World} {p1 r1 p2 r2 : Nat} {pv1 rv1 pv2 rv2 : Value} (hx1 : Ext (fun _ => False) W w1) (hP1 : PairI w1 p1 r1 nms3 pv1 rv1 px0 (.slice none 0 0) 0) (hF1 : ∀ k, Foot p1 r1 pv1 rv1 k → W.heap.size ≤ k)
    (hv1 : Ext (fun _ => False) w1 v1) (hx2 : Ext (fun _ => False) v1 w2) (hP2 : PairI w2 p2 r2 nms3 pv2 rv2 px0 (.slice none 0 0) 0) (hF2 : ∀ k, Foot p2 r2 pv2 rv2 k → v1.heap.size ≤ k) :
    Mid W G (w2.heap.size + 1) (w2.heap.size + 1 + 1) p1 r1 p2 r2 (((w2.alloc (.cells #[.pointer (some ⟨p2, 0, none⟩), .pointer (some ⟨r2, 0, none⟩)] 28)).alloc (.cells #[.pointer (some ⟨p1, 0, none⟩), .pointer (some ⟨r1, 0, none⟩), .pointer (some ⟨p2, 0, none⟩), .pointer (some ⟨r2, 0, none⟩)] 28)).alloc (.cells #[.slice none 0 0, .slice none 0 0, .int .i64 0] 36)) := by
  have hx3 : Ext (fun _ => False) w2 (((w2.alloc (.cells #[.pointer (some ⟨p2, 0, none⟩), .pointer (some ⟨r2, 0, none⟩)] 28)).alloc (.cells #[.pointer (some ⟨p1, 0, none⟩), .pointer (some ⟨r1, 0, none⟩), .pointer (some ⟨p2, 0, none⟩), .pointer (some ⟨r2, 0, none⟩)] 28)).alloc (.cells #[.slice none 0 0, .slice none 0 0, .int .i64 0] 36)) := (((Ext.refl _ w2).alloc _).alloc _).alloc _
  have s1 := hx1.size
  have s2 := hv1.size
  have s3 := hx2.size
  refine ⟨((hx1.trans hv1).trans hx2).trans hx3, ?_, ?_, Foot p1 r1 pv1 rv1, Foot p2 r2 pv2 rv2, hG.start _ _ _ _ _ (hP1.ext ((hv1.trans hx2).trans hx3) (fun _ _ f => f)), hG.start _ _ _ _ _ (hP2.ext hx3 (fun _ _ f => f)), ?_, ?_, ?_⟩
  · rw [heap_alloc_old _ _ (by simp)]
    have e := heap_alloc_new (w2.alloc (.cells #[.pointer (some ⟨p2, 0, none⟩), .pointer (some ⟨r2, 0, none⟩)] 28)) (.cells #[.pointer (some ⟨p1, 0, none⟩), .pointer (some ⟨r1, 0, none⟩), .pointer (some ⟨p2, 0, none⟩), .pointer (some ⟨r2, 0, none⟩)] 28)
    simpa using e
  · have e := heap_alloc_new ((w2.alloc (.cells #[.pointer (some ⟨p2, 0, none⟩), .pointer (some ⟨r2, 0, none⟩)] 28)).alloc (.cells #[.pointer (some ⟨p1, 0, none⟩), .pointer (some ⟨r1, 0, none⟩), .pointer (some ⟨p2, 0, none⟩), .pointer (some ⟨r2, 0, none⟩)] 28)) (.cells #[.slice none 0 0, .slice none 0 0, .int .i64 0] 36)
    simpa using e
  · intro k h1 h2
    have := hP1.lt k h1
    have := hF2 k h2
    omega
  · intro k h1
    have := hP1.lt k h1
    have := hF1 k h1
    omega
  · intro k h2
    have := hP2.lt k h2
    have := hF2 k h2
    omega

set_option maxRecDepth 100000 in
set_option maxHeartbeats 1000000 in
theorem plays_any {most : Int} {G : Nat → Nat → World → (Nat → Prop) → Prop} (hG : Game most G) (hm : most < 7) (W : World) (sa : Option Addr) (n cap : Nat) (hn : n ≤ maxLen) (hS : Script W sa n) (hhd : HdLaid W) (hten : TenLaid W) :
    Calls Tryz.prog 5 #[.slice sa n cap, .int .i64 most] W fun e w' => e = .returned (.bool true) ∧ Ext (fun _ => False) W w' := by
  have HHD := hide hhd
  have HTEN := hide hten
  have HS := hide hS
  have HG := hide hG
  clear hhd hten hS hG
  go_enter Tryz.func5, Tryz.ntmps5
  go_wp2_with fail
  refine (begun_any W HHD.out HTEN.out).mono ?_
  rintro e w1 ⟨p1, r1, pv1, rv1, rfl, hx1, hP1, hF1⟩
  have HX1 := hide hx1
  have HP1 := hide hP1
  have HF1 := hide hF1
  clear hx1 hP1 hF1
  go_wp2_with fail
  obtain ⟨v1, hv1⟩ : ∃ v1, w1.alloc (.cells #[.pointer (some ⟨p1, 0, none⟩), .pointer (some ⟨r1, 0, none⟩)] 28) = v1 := ⟨_, rfl⟩
  have HV1 : Hid (Ext (fun _ => False) w1 v1) := by rw [← hv1]; exact (Ext.refl _ w1).alloc _
  have HK1 : Hid (v1.heap[w1.heap.size]? = some (.cells #[.pointer (some ⟨p1, 0, none⟩), .pointer (some ⟨r1, 0, none⟩)] 28)) := by rw [← hv1]; exact heap_alloc_new w1 _
  rw [hv1]
  clear hv1
  refine (begun_any v1 (HHD.out.ext (HX1.out.trans HV1.out) (fun f => f)) (HTEN.out.ext (HX1.out.trans HV1.out) (fun f => f))).mono ?_
  rintro e w2 ⟨p2, r2, pv2, rv2, rfl, hx2, hP2, hF2⟩
  have k1 := (hx2.block _ (block_lt HK1.out) (fun f => f)).trans HK1.out
  have c10 := cell_of_block k1 0
  have c11 := cell_of_block k1 1
  have hlt := block_lt k1
  have HX2 := hide hx2
  have HP2 := hide hP2
  have HF2 := hide hF2
  clear hx2 hP2 hF2 k1
  go_wp2_with fail
  have hM := mid_start HG.out HX1.out HP1.out HF1.out HV1.out HX2.out HP2.out HF2.out
  have HM := hide hM
  clear hM c10 c11 hlt HX1 HP1 HF1 HV1 HX2 HP2 HF2 HK1
  go_loopw [11] (fun i wr => ∃ k : Nat, k ≤ n ∧ i = .int .i64 k ∧ Mid W G (w2.heap.size + 1) (w2.heap.size + 1 + 1) p1 r1 p2 r2 wr) (fun i _ => n - (intOf i).toNat)
  case atStart => exact ⟨0, Nat.zero_le _, rfl, HM.out⟩
  case round =>
    clear HM
    obtain ⟨k, hk, rfl, hM⟩ := hrel
    have HM := hide hM
    clear hM
    have hmx : n ≤ 9223372036854775807 := by unfold maxLen at hn; omega
    by_cases hlt : k < n
    · obtain ⟨b, off, kd, on, s, a, rfl, hb, hs, ho1, ho2, c0, c1, c2, c3⟩ := HS.out k hlt
      have hx := HM.out.ext
      rw [← hx.cell (p := ⟨b, off + k * 4, none⟩) hb (fun f => f)] at c0
      rw [← hx.cell (p := ⟨b, off + k * 4 + 1, none⟩) hb (fun f => f)] at c1
      rw [← hx.cell (p := ⟨b, off + k * 4 + 2, none⟩) hb (fun f => f)] at c2
      rw [← hx.cell (p := ⟨b, off + k * 4 + 3, none⟩) hb (fun f => f)] at c3
      have HOn : Hid (-9223372036854775808 ≤ on ∧ on ≤ 9223372036854775807) := ⟨ho1, ho2⟩
      have HSZ := hide hs
      clear hx ho1 ho2 hs
      by_cases hmost : most < kd
      · go_wp2_with fail
        exact ⟨⟨k + 1, by omega, by go_num, HM.out⟩, by simp [intOf]; omega⟩
      · have l0 := cell_of_block HM.out.lst 0
        have l1 := cell_of_block HM.out.lst 1
        have l2 := cell_of_block HM.out.lst 2
        have l3 := cell_of_block HM.out.lst 3
        have HK : Hid (kd ≤ most) := by show _ ≤ _; omega
        have hmy := HM.out
        obtain ⟨hxW, hlst, hbok, F1, F2, g1, g2, hd, h1, h2⟩ := hmy
        have hhdr := HHD.out.ext hxW (fun f => f)
        have htenr := HTEN.out.ext hxW (fun f => f)
        have HTWO : Hid (G p1 r1 wr F1 ∧ G p2 r2 wr F2 ∧ (∀ k, F1 k → ¬ F2 k) ∧ (∀ k, F1 k → W.heap.size ≤ k ∧ ¬ k = w2.heap.size + 1 ∧ ¬ k = w2.heap.size + 1 + 1) ∧ (∀ k, F2 k → W.heap.size ≤ k ∧ ¬ k = w2.heap.size + 1 ∧ ¬ k = w2.heap.size + 1 + 1)) := ⟨g1, g2, hd, h1, h2⟩
        have HLAID : Hid (HdLaid wr ∧ TenLaid wr) := ⟨hhdr, htenr⟩
        clear hxW hlst hbok g1 g2 hd h1 h2 hhdr htenr
        have HPK := hide (fun w => pick_two on w HOn.out.1 HOn.out.2)
        rcases pickOf_two on with hp | hp
        · rw [hp] at HPK
          clear hp
          go_wp2_with fail
          go_region_law (go_simp; go_wp2_with (first | (go_at_call 7; refine (HPK.out _).mono ?_; rintro e w' ⟨rfl, rfl⟩) | (go_at_call 8; refine (HG.out.step _ p1 r1 F1 kd on s a _ (HG.out.ext _ _ _ _ _ (fun _ => False) HTWO.out.1 ((Ext.refl _ wr).drew) (fun _ _ f => f)) (HLAID.out.1.ext ((Ext.refl (fun _ => False) wr).drew) (fun f => f)) (HLAID.out.2.ext ((Ext.refl (fun _ => False) wr).drew) (fun f => f)) HK.out HSZ.out).mono ?_; rintro e w' ⟨rfl, hx, F1', g1', hF'⟩)))
          all_goals
            have hN := mid_one HG.out (w := wr.drew) HM.out.ext.drew HM.out.lst HM.out.bok (HG.out.ext _ _ _ _ _ (fun _ => False) HTWO.out.2.1 ((Ext.refl _ wr).drew) (fun _ _ f => f)) HTWO.out.2.2.1 HTWO.out.2.2.2.1 HTWO.out.2.2.2.2 hx g1' hF'
            have HN := hide hN
            clear hx g1' hF' hN l0 l1 l2 l3 c0 c1 c2 c3 HM HTWO HLAID HPK
            go_wp2_with (go_at_call 9; refine (looks_none (w2.heap.size + 1 + 1) _ _ HN.out.bok).mono ?_; rintro e w'' ⟨rfl, rfl⟩)
            exact ⟨⟨k + 1, by omega, by go_num, HN.out⟩, by simp [intOf]; omega⟩
        · rw [hp] at HPK
          clear hp
          go_wp2_with fail
          go_region_law (go_simp; go_wp2_with (first | (go_at_call 7; refine (HPK.out _).mono ?_; rintro e w' ⟨rfl, rfl⟩) | (go_at_call 8; refine (HG.out.step _ p2 r2 F2 kd on s a _ (HG.out.ext _ _ _ _ _ (fun _ => False) HTWO.out.2.1 ((Ext.refl _ wr).drew) (fun _ _ f => f)) (HLAID.out.1.ext ((Ext.refl (fun _ => False) wr).drew) (fun f => f)) (HLAID.out.2.ext ((Ext.refl (fun _ => False) wr).drew) (fun f => f)) HK.out HSZ.out).mono ?_; rintro e w' ⟨rfl, hx, F1', g1', hF'⟩)))
          all_goals
            have hN := mid_two HG.out (w := wr.drew) HM.out.ext.drew HM.out.lst HM.out.bok (HG.out.ext _ _ _ _ _ (fun _ => False) HTWO.out.1 ((Ext.refl _ wr).drew) (fun _ _ f => f)) HTWO.out.2.2.1 HTWO.out.2.2.2.1 HTWO.out.2.2.2.2 hx g1' hF'
            have HN := hide hN
            clear hx g1' hF' hN l0 l1 l2 l3 c0 c1 c2 c3 HM HTWO HLAID HPK
            go_wp2_with (go_at_call 9; refine (looks_none (w2.heap.size + 1 + 1) _ _ HN.out.bok).mono ?_; rintro e w'' ⟨rfl, rfl⟩)
            exact ⟨⟨k + 1, by omega, by go_num, HN.out⟩, by simp [intOf]; omega⟩
    · go_wp2_with fail
      go_ret
      exact ⟨rfl, HM.out.ext⟩

end Go.Proofs.YtihpglkehkgioaaGreatDoor

/- What the program's start has laid: the table of first words; a script as it lies in memory. -/
namespace Go.Proofs.YtihpglkehkgioaaGreatDoor
open Go.RowKit Go.ChangeShapes Go.Deep Go.Joins Ar

theorem chunks3 (f : Nat → List Value) : ∀ (n : Nat) (l : List Value), l.length = 3 * n → (∀ i, i < n → (l.drop (3 * i)).take 3 = f i) → l = (List.range n).flatMap f
  | 0, l, hl, _ => by simpa using hl
  | n + 1, l, hl, h => by
    have e1 := chunks3 f n (l.take (3 * n)) (by simp; omega) (fun i hi => by
      rw [List.drop_take, List.take_take, Nat.min_eq_left (by omega)]; exact h i (by omega))
    have e2 := h n (by omega)
    rw [List.take_of_length_le (by simp; omega)] at e2
    rw [List.range_succ, List.flatMap_append, ← e1]
    simp [← e2]

section
variable {H : Type} {enc : TypeId × Value → H} {P : Program} {w : World} {base : Nat} {spare : Nat → Bool} {held : Bool}

theorem list3 {α : Type} {l : List α} (h : l.length = 3) : ∃ a b c, l = [a, b, c] := by
  match l, h with
  | [a, b, c], _ => exact ⟨a, b, c, rfl⟩

theorem list4 {α : Type} {l : List α} (h : l.length = 4) : ∃ a b c d, l = [a, b, c, d] := by
  match l, h with
  | [a, b, c, d], _ => exact ⟨a, b, c, d, rfl⟩

theorem cells_struct3 {t : TypeId} {f0 f1 f2 : Field} {fuel : Nat} {cs : List Value} {x : DataW H × List MemPlace} (hs : P.underlying t = some (.struct #[f0, f1, f2])) (hone : oneCellFields P #[f0, f1, f2] = true) (hC : P.cellsOf t = 3)
    (h : DataW.trod enc P w base spare held fuel t cs = some x) :
    ∃ (v0 v1 v2 : Value) (y0 y1 y2 : DataW H × List MemPlace) (n : Nat), cs = [v0, v1, v2] ∧ x.1 = .agg [y0.1, y1.1, y2.1] ∧
      DataW.trod enc P w base spare held n f0.type [v0] = some y0 ∧ DataW.trod enc P w base spare held n f1.type [v1] = some y1 ∧ DataW.trod enc P w base spare held n f2.type [v2] = some y2 := by
  obtain ⟨y0, y1, y2, n, hx, hl, h0, h1, h2⟩ := trod_struct3 hs h
  obtain ⟨c0, c1, c2, rfl⟩ := list3 (hl.trans hC)
  obtain ⟨o0, k0⟩ := hone_of hone 0 f0 rfl
  obtain ⟨o1, k1⟩ := hone_of hone 1 f1 rfl
  obtain ⟨o2, k2⟩ := hone_of hone 2 f2 rfl
  exact ⟨c0, c1, c2, y0, y1, y2, n, rfl, by rw [hx], by simpa [o0, k0] using h0, by simpa [o1, k1] using h1, by simpa [o2, k2] using h2⟩

theorem cells_struct4 {t : TypeId} {f0 f1 f2 f3 : Field} {fuel : Nat} {cs : List Value} {x : DataW H × List MemPlace} (hs : P.underlying t = some (.struct #[f0, f1, f2, f3])) (hone : oneCellFields P #[f0, f1, f2, f3] = true) (hC : P.cellsOf t = 4)
    (h : DataW.trod enc P w base spare held fuel t cs = some x) :
    ∃ (v0 v1 v2 v3 : Value) (y0 y1 y2 y3 : DataW H × List MemPlace) (n : Nat), cs = [v0, v1, v2, v3] ∧
      DataW.trod enc P w base spare held n f0.type [v0] = some y0 ∧ DataW.trod enc P w base spare held n f1.type [v1] = some y1 ∧ DataW.trod enc P w base spare held n f2.type [v2] = some y2 ∧ DataW.trod enc P w base spare held n f3.type [v3] = some y3 := by
  obtain ⟨y0, y1, y2, y3, n, hx, hl, h0, h1, h2, h3⟩ := trod_struct4 hs h
  obtain ⟨c0, c1, c2, c3, rfl⟩ := list4 (hl.trans hC)
  obtain ⟨o0, k0⟩ := hone_of hone 0 f0 rfl
  obtain ⟨o1, k1⟩ := hone_of hone 1 f1 rfl
  obtain ⟨o2, k2⟩ := hone_of hone 2 f2 rfl
  obtain ⟨o3, k3⟩ := hone_of hone 3 f3 rfl
  exact ⟨c0, c1, c2, c3, y0, y1, y2, y3, n, rfl, by simpa [o0, k0] using h0, by simpa [o1, k1] using h1, by simpa [o2, k2] using h2, by simpa [o3, k3] using h3⟩

/-- A struct of a text and two numbers, out of its datum. -/
theorem head_of {t ts tk tq : TypeId} {f0 f1 f2 : Field} (hs : P.underlying t = some (.struct #[f0, f1, f2])) (hone : oneCellFields P #[f0, f1, f2] = true) (hC : P.cellsOf t = 3) (e0 : f0.type = ts) (e1 : f1.type = tk) (e2 : f2.type = tq)
    (h0 : P.underlying ts = some .string) (h1 : P.underlying tk = some (.int .i64)) (h2 : P.underlying tq = some (.int .i64)) {n : Nat} {cs : List Value} {y : DataW H × List MemPlace} (h : DataW.trod enc P w base spare held n t cs = some y)
    {s : ByteArray} {x k : Int} (hy : y.1 = .agg [.lit (.string s.data.toList), .lit (.int .i64 x), .lit (.int .i64 k)]) : cs = [.string s, .int .i64 x, .int .i64 k] := by
  subst e0 e1 e2
  obtain ⟨v0, v1, v2, y0, y1, y2, m, rfl, hx, g0, g1, g2⟩ := cells_struct3 hs hone hC h
  obtain ⟨s0, c0, rfl, _⟩ := DataW.trod_string h0 g0
  obtain ⟨x0, c1, rfl, _⟩ := DataW.trod_int h1 g1
  obtain ⟨k0, c2, rfl, _⟩ := DataW.trod_int h2 g2
  rw [hx] at hy
  simp only [DataW.agg.injEq, List.cons.injEq, DataW.lit.injEq, Lit.string.injEq, Lit.int.injEq, true_and, and_true] at hy
  obtain ⟨hb, rfl, rfl⟩ := hy
  have : s0 = s := by
    obtain ⟨d0⟩ := s0
    obtain ⟨d⟩ := s
    congr 1
    exact Array.ext' hb
  subst this
  simp only [List.cons.injEq, and_true] at c0 c1 c2
  rw [c0, c1, c2]

/-- Four cells of a step, out of its reading. -/
theorem op_of {t ti ts : TypeId} {f0 f1 f2 f3 : Field} (hs : P.underlying t = some (.struct #[f0, f1, f2, f3])) (hone : oneCellFields P #[f0, f1, f2, f3] = true) (hC : P.cellsOf t = 4) (e0 : f0.type = ti) (e1 : f1.type = ti) (e2 : f2.type = ts) (e3 : f3.type = ti)
    (h0 : P.underlying ti = some (.int .i64)) (h2 : P.underlying ts = some .string) {n : Nat} {cs : List Value} {y : DataW H × List MemPlace} (h : DataW.trod enc P w base spare held n t cs = some y) :
    ∃ (k on : Int) (s : ByteArray) (a : Int), cs = [.int .i64 k, .int .i64 on, .string s, .int .i64 a] ∧ s.size ≤ maxLen ∧ -9223372036854775808 ≤ on ∧ on ≤ 9223372036854775807 := by
  subst e0 e2
  rw [← e1] at h0
  obtain ⟨v0, v1, v2, v3, y0, y1, y2, y3, m, rfl, g0, g1, g2, g3⟩ := cells_struct4 hs hone hC h
  rw [← e1] at g0
  rw [e3, ← e1] at g3
  obtain ⟨k, c0, _, _⟩ := DataW.trod_int h0 g0
  obtain ⟨on, c1, _, wf⟩ := DataW.trod_int h0 g1
  obtain ⟨s, c2, _, hl⟩ := DataW.trod_string h2 g2
  obtain ⟨a, c3, _, _⟩ := DataW.trod_int h0 g3
  simp only [List.cons.injEq, and_true] at c0 c1 c2 c3
  have hb := bounds_i64 wf
  exact ⟨k, on, s, a, by rw [c0, c1, c2, c3], hl, hb.1, hb.2⟩

/-- A slice whose elements take four cells, out of its reading: its address, and of each element its cells with their reading. -/
theorem slice4_of {t e : TypeId} (ht : P.underlying t = some (.slice e)) (he : P.cellsOf e = 4) {sa : Option Addr} {n cap : Nat} {d : DataW H} {p : List MemPlace} (h : DataW.Trod enc P w 0 (fun _ => true) true t (.slice sa n cap) d p) :
    n ≤ maxLen ∧ ∀ i, i < n → ∃ (a : Addr) (cs : List Value) (q : Nat) (y : DataW H × List MemPlace), sa = some a ∧ a.spot = none ∧ a.block < w.heap.size ∧ w.cells? 0 (a.add (i * 4)) 4 = some cs ∧ DataW.trod enc P w 0 (fun _ => true) true q e cs = some y := by
  obtain ⟨fuel, hf⟩ := h
  rcases open_slice ht hf with ⟨hcs, _⟩ | ⟨a, len, cp, m, q, D, Pl, hcs, _, hl, hm, hmm, _, hel⟩
  · have e0 : Value.slice sa n cap = .slice none 0 0 := by simpa [Value.cells] using hcs
    cases e0
    exact ⟨Nat.zero_le _, fun i hi => absurd hi (by omega)⟩
  · have e0 : Value.slice sa n cap = .slice (some a) len cp := by simpa [Value.cells] using hcs
    cases e0
    refine ⟨Nat.le_trans hl hm, fun i hi => ?_⟩
    rw [if_pos rfl] at hmm
    obtain ⟨cs, hc, hy⟩ := hel i (by omega)
    obtain ⟨cs0, hc0, _⟩ := hel 0 (by omega)
    rw [he] at hc hc0
    have hsp : a.spot = none := by
      obtain ⟨_, hlen, hcell⟩ := World.cells?_some hc0
      have h0 := hcell 0 (by decide)
      rw [List.getElem?_eq_getElem (by omega)] at h0
      have := World.cell?_spot h0
      have e1 : a.add (0 * 4) = a := by simp [Addr.add]
      have e2 : a.add 0 = a := by simp [Addr.add]
      simpa [e1, e2] using this
    have hlt := World.cells?_block hc (by decide)
    have hb : (a.add (i * 4)).block = a.block := by unfold Addr.add; split <;> rfl
    rw [hb] at hlt
    exact ⟨a, cs, q, _, rfl, hsp, hlt, hc, hy⟩
end

end Go.Proofs.YtihpglkehkgioaaGreatDoor
