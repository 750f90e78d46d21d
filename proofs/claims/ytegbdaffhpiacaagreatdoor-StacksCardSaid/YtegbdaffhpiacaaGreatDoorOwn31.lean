/- The document's own answer: parts, of an atom; The document's own answer: the terms, or the atoms, of a tree: all kinds of nodes; The document's own answer: a session with its formulas; how many terms, or atoms, they have. -/
import Derived.Test.YtegbdaffhpiacaaGreatDoorOwn30
/- The document's own answer: parts, of an atom. -/
namespace Go.Proofs.YtegbdaffhpiacaaGreatDoor
open Go.RowKit Ar

set_option maxRecDepth 100000 in
set_option maxHeartbeats 1000000 in
theorem parts_0_a {w : World} {D : Nat → Prop} {b : Nat} {lv : Value} {l : List ByteArray} {k v : Int} {word wd fm : ByteArray} {ps : List Nd} {pv by_ : Value} (hnb : w.heap[b]? = some (.cells #[.string wd, pv, by_, .bool (rtm k), .string fm] 235)) (hdb : D b) (hf : fm.toList = formOf (.mk k word v ps))
    (hkid : ∃ a cap, pv = .slice a (rps k ps).length cap ∧ ∀ i p, (rps k ps)[i]? = some p → ∃ g c, a = some ⟨g, 0, none⟩ ∧ g < w.heap.size ∧ D g ∧ w.cell? ⟨g, i, none⟩ = some (.pointer (some ⟨c, 0, none⟩)) ∧ RN w D c p)
    (hfa : (∀ t, subsAll t (rps k ps) = subsAll t ps) ∧ True) (hdl : ∀ q, D q → q < w.heap.size) (hsr : SR w lv l) (hld : ∀ g, lv.ownBlock = some g → ¬ D g) (hlen : l.length + (subs false (.mk k word v ps)).length ≤ 100000000)
    (hih : ∀ p ∈ rps k ps, ∀ (w : World) (D : Nat → Prop) (b : Nat) (lv : Value) (l : List ByteArray), RN w D b p → (∀ q, D q → q < w.heap.size) → SR w lv l → (∀ g, lv.ownBlock = some g → ¬ D g) → l.length + (subs false p).length ≤ 100000000 → Calls Tryz.prog 163 #[.pointer (some ⟨b, 0, none⟩), .bool false, lv] w (PartsPost w lv l (subs false p)))
    (hlk : (rps k ps).length ≤ 100000000) (hr : rtm k = false) (hit : isIt false k = true) (hw : wd.toList = [61]) :
    Calls Tryz.prog 163 #[.pointer (some ⟨b, 0, none⟩), .bool false, lv] w (PartsPost w lv l (subs false (.mk k word v ps))) := by
  obtain ⟨ka, kc, rfl, hkid⟩ := hkid
  obtain ⟨la, lc, rfl, _⟩ := SR.shape hsr
  have HNB := hide hnb
  have HDB := hide hdb
  have HF := hide hf
  have HKID := hide hkid
  have HFA := hide hfa
  have HDL := hide hdl
  have HSR := hide hsr
  have HLD := hide hld
  have HLEN := hide hlen
  have HIH := hide hih
  have c0 := cell_of_block hnb 0
  have c1 := cell_of_block hnb 1
  have c3 := cell_of_block hnb 3
  have c4 := cell_of_block hnb 4
  obtain ⟨i0, hi, hz0, hz1, hz2⟩ := info_parts infoStr
  have HI : Hid (Tryz.prog.info? 9 = some i0 ∧ i0.zero = some (.string ByteArray.empty) ∧ i0.size = 1 ∧ i0.bytes = 16) := ⟨hi, hz0, hz1, hz2⟩
  clear hnb hdb hf hkid hfa hdl hsr hld hlen hih hi hz0 hz1 hz2
  rw [hr] at HNB c3
  have a0 : (wd.toList == [61]) = true := by rw [hw]; decide
  clear hw
  have HIT := hide hit
  clear hit
  go_enter Tryz.func163, Tryz.ntmps163
  go_wp2_with fail
  refine (among_any HSR.out fm (by have := HLEN.out; omega)).mono ?_
  rintro e w' ⟨rfl, hw⟩
  rw [hw]
  clear hw w'
  cases hq : amongB l fm with
  | true =>
    have HPM := hide (pm_there HSR.out HF.out hq)
    go_wp2_with fail
    go_loopw [2, 9] (fun vv i wr => ∃ (j : Nat) (l' : List ByteArray), j ≤ (rps k ps).length ∧ i = .int .i64 j ∧ PM w (.slice la l.length lc) l ([.mk k word v ps] ++ subsAll false ((rps k ps).take j)) vv l' wr) (fun _ i _ => (rps k ps).length - (intOf i).toNat)
    case atStart => exact ⟨0, _, Nat.zero_le _, rfl, by simpa [subsAll] using HPM.out⟩
    case round =>
      clear HPM
      obtain ⟨j, l', hj, rfl, hpm⟩ := hrel
      have HPM := hide hpm
      obtain ⟨va, vc, hvv, _⟩ := SR.shape hpm.2.1
      subst hvv
      have kb := (hpm.1.block _ (block_lt HNB.out) (fun e => HLD.out _ e HDB.out)).trans HNB.out
      have d1 := cell_of_block kb 1
      clear hpm kb
      by_cases hlt : j < (rps k ps).length
      · obtain ⟨p, hp⟩ : ∃ p, (rps k ps)[j]? = some p := ⟨_, List.getElem?_eq_getElem hlt⟩
        obtain ⟨g, cb, rfl, hgl, hDg, hcell, hrn⟩ := HKID.out j p hp
        rw [← HPM.out.1.cell (p := ⟨g, j, none⟩) hgl (fun e => HLD.out _ e hDg)] at hcell
        have HC := hide (HIH.out p (List.mem_of_getElem? hp) wr D cb _ l' (hrn.ext HPM.out.1 (fun q _ hd e => HLD.out q e hd)) (fun q hq => Nat.lt_of_lt_of_le (HDL.out q hq) HPM.out.1.size) HPM.out.2.1 (fun q hq hd => (HPM.out.2.2.2.2 q hq).elim (fun e => HLD.out q e hd) (fun e => by have := HDL.out q hd; omega)) (by
          have h1 := HPM.out.2.2.2.1
          have h2 := HLEN.out
          have h3 := subs_take false hp
          rw [subs_it HIT.out, List.length_append, ← HFA.out.1 false] at h2
          rw [List.length_append] at h1
          omega))
        have HP := hide hp
        clear hp hrn hgl hDg
        go_wp2_with fail
        refine HC.out.mono ?_
        rintro e w2 hp2
        obtain ⟨v2, l2, rfl, hpm2⟩ := pm_step HPM.out hp2
        have HPM2 := hide hpm2
        clear hp2 hpm2 HC
        go_wp2_with fail
        go_roundw
        case measure => simp [intOf]; omega
        case rel => exact ⟨j + 1, l2, by omega, by go_num, by rw [subs_snoc false HP.out, ← List.append_assoc]; exact HPM2.out⟩
      · go_wp2_with fail
        go_ret
        refine ⟨_, l', rfl, ?_⟩
        have h1 := HPM.out
        rw [List.take_of_length_le (by omega), HFA.out.1 false] at h1
        rw [subs_it HIT.out]
        exact h1
  | false =>
    have HQ := hide hq
    obtain ⟨hi, hz0, hz1, hz2⟩ := HI.out
    go_wp2_with (at_builtin; refine wpList_append_own_at _ rfl _ _ 238 rfl 0 9 i0 (.string ByteArray.empty) 1 16 Tryz.underlying238 hi hz0 hz1 hz2 rfl (by decide) _ _ _ rfl (World.ownsRow.alloc HSR.out _) ⟨w.heap.size, 0, none⟩ 1 1 [.string fm] rfl rfl ?c1 ?c2 ?c3 ?c4 ?c5 ?_)
    case c1 =>
      intro q u2 hq2
      match q, hq2 with
      | 0, hq2 => simp at hq2; subst hq2; simp [Addr.add]
    case c2 => intro u2 hu2; simp at hu2; subst hu2; rfl
    case c3 => unfold maxLen; have := HLEN.out; omega
    case c4 => have := HLEN.out; omega
    case c5 => omega
    intro v' wa hown' hgrow _ hat
    have HPM := hide (pm_new HF.out HQ.out ((Ext.refl _ w).alloc _) hgrow hown' (by simpa using hat))
    clear hown' hgrow hat hi hz0 hz1 hz2
    go_wp2_with fail
    go_loopw [2, 9] (fun vv i wr => ∃ (j : Nat) (l' : List ByteArray), j ≤ (rps k ps).length ∧ i = .int .i64 j ∧ PM w (.slice la l.length lc) l ([.mk k word v ps] ++ subsAll false ((rps k ps).take j)) vv l' wr) (fun _ i _ => (rps k ps).length - (intOf i).toNat)
    case atStart => exact ⟨0, _, Nat.zero_le _, rfl, by simpa [subsAll] using HPM.out⟩
    case round =>
      clear HPM
      obtain ⟨j, l', hj, rfl, hpm⟩ := hrel
      have HPM := hide hpm
      obtain ⟨va, vc, hvv, _⟩ := SR.shape hpm.2.1
      subst hvv
      have kb := (hpm.1.block _ (block_lt HNB.out) (fun e => HLD.out _ e HDB.out)).trans HNB.out
      have d1 := cell_of_block kb 1
      clear hpm kb
      by_cases hlt : j < (rps k ps).length
      · obtain ⟨p, hp⟩ : ∃ p, (rps k ps)[j]? = some p := ⟨_, List.getElem?_eq_getElem hlt⟩
        obtain ⟨g, cb, rfl, hgl, hDg, hcell, hrn⟩ := HKID.out j p hp
        rw [← HPM.out.1.cell (p := ⟨g, j, none⟩) hgl (fun e => HLD.out _ e hDg)] at hcell
        have HC := hide (HIH.out p (List.mem_of_getElem? hp) wr D cb _ l' (hrn.ext HPM.out.1 (fun q _ hd e => HLD.out q e hd)) (fun q hq => Nat.lt_of_lt_of_le (HDL.out q hq) HPM.out.1.size) HPM.out.2.1 (fun q hq hd => (HPM.out.2.2.2.2 q hq).elim (fun e => HLD.out q e hd) (fun e => by have := HDL.out q hd; omega)) (by
          have h1 := HPM.out.2.2.2.1
          have h2 := HLEN.out
          have h3 := subs_take false hp
          rw [subs_it HIT.out, List.length_append, ← HFA.out.1 false] at h2
          rw [List.length_append] at h1
          omega))
        have HP := hide hp
        clear hp hrn hgl hDg
        go_wp2_with fail
        refine HC.out.mono ?_
        rintro e w2 hp2
        obtain ⟨v2, l2, rfl, hpm2⟩ := pm_step HPM.out hp2
        have HPM2 := hide hpm2
        clear hp2 hpm2 HC
        go_wp2_with fail
        go_roundw
        case measure => simp [intOf]; omega
        case rel => exact ⟨j + 1, l2, by omega, by go_num, by rw [subs_snoc false HP.out, ← List.append_assoc]; exact HPM2.out⟩
      · go_wp2_with fail
        go_ret
        refine ⟨_, l', rfl, ?_⟩
        have h1 := HPM.out
        rw [List.take_of_length_le (by omega), HFA.out.1 false] at h1
        rw [subs_it HIT.out]
        exact h1

set_option maxRecDepth 100000 in
set_option maxHeartbeats 1000000 in
theorem parts_1_a {w : World} {D : Nat → Prop} {b : Nat} {lv : Value} {l : List ByteArray} {k v : Int} {word wd fm : ByteArray} {ps : List Nd} {pv by_ : Value} (hnb : w.heap[b]? = some (.cells #[.string wd, pv, by_, .bool (rtm k), .string fm] 235)) (hdb : D b) (hf : fm.toList = formOf (.mk k word v ps))
    (hkid : ∃ a cap, pv = .slice a (rps k ps).length cap ∧ ∀ i p, (rps k ps)[i]? = some p → ∃ g c, a = some ⟨g, 0, none⟩ ∧ g < w.heap.size ∧ D g ∧ w.cell? ⟨g, i, none⟩ = some (.pointer (some ⟨c, 0, none⟩)) ∧ RN w D c p)
    (hfa : (∀ t, subsAll t (rps k ps) = subsAll t ps) ∧ True) (hdl : ∀ q, D q → q < w.heap.size) (hsr : SR w lv l) (hld : ∀ g, lv.ownBlock = some g → ¬ D g) (hlen : l.length + (subs false (.mk k word v ps)).length ≤ 100000000)
    (hih : ∀ p ∈ rps k ps, ∀ (w : World) (D : Nat → Prop) (b : Nat) (lv : Value) (l : List ByteArray), RN w D b p → (∀ q, D q → q < w.heap.size) → SR w lv l → (∀ g, lv.ownBlock = some g → ¬ D g) → l.length + (subs false p).length ≤ 100000000 → Calls Tryz.prog 163 #[.pointer (some ⟨b, 0, none⟩), .bool false, lv] w (PartsPost w lv l (subs false p)))
    (hlk : (rps k ps).length ≤ 100000000) (hr : rtm k = false) (hit : isIt false k = true) (hw : wd.toList = [60]) :
    Calls Tryz.prog 163 #[.pointer (some ⟨b, 0, none⟩), .bool false, lv] w (PartsPost w lv l (subs false (.mk k word v ps))) := by
  obtain ⟨ka, kc, rfl, hkid⟩ := hkid
  obtain ⟨la, lc, rfl, _⟩ := SR.shape hsr
  have HNB := hide hnb
  have HDB := hide hdb
  have HF := hide hf
  have HKID := hide hkid
  have HFA := hide hfa
  have HDL := hide hdl
  have HSR := hide hsr
  have HLD := hide hld
  have HLEN := hide hlen
  have HIH := hide hih
  have c0 := cell_of_block hnb 0
  have c1 := cell_of_block hnb 1
  have c3 := cell_of_block hnb 3
  have c4 := cell_of_block hnb 4
  obtain ⟨i0, hi, hz0, hz1, hz2⟩ := info_parts infoStr
  have HI : Hid (Tryz.prog.info? 9 = some i0 ∧ i0.zero = some (.string ByteArray.empty) ∧ i0.size = 1 ∧ i0.bytes = 16) := ⟨hi, hz0, hz1, hz2⟩
  clear hnb hdb hf hkid hfa hdl hsr hld hlen hih hi hz0 hz1 hz2
  rw [hr] at HNB c3
  have a0 : (wd.toList == [61]) = false := by rw [hw]; decide
  have a1 : (wd.toList == [60]) = true := by rw [hw]; decide
  clear hw
  have HIT := hide hit
  clear hit
  go_enter Tryz.func163, Tryz.ntmps163
  go_wp2_with fail
  refine (among_any HSR.out fm (by have := HLEN.out; omega)).mono ?_
  rintro e w' ⟨rfl, hw⟩
  rw [hw]
  clear hw w'
  cases hq : amongB l fm with
  | true =>
    have HPM := hide (pm_there HSR.out HF.out hq)
    go_wp2_with fail
    go_loopw [2, 9] (fun vv i wr => ∃ (j : Nat) (l' : List ByteArray), j ≤ (rps k ps).length ∧ i = .int .i64 j ∧ PM w (.slice la l.length lc) l ([.mk k word v ps] ++ subsAll false ((rps k ps).take j)) vv l' wr) (fun _ i _ => (rps k ps).length - (intOf i).toNat)
    case atStart => exact ⟨0, _, Nat.zero_le _, rfl, by simpa [subsAll] using HPM.out⟩
    case round =>
      clear HPM
      obtain ⟨j, l', hj, rfl, hpm⟩ := hrel
      have HPM := hide hpm
      obtain ⟨va, vc, hvv, _⟩ := SR.shape hpm.2.1
      subst hvv
      have kb := (hpm.1.block _ (block_lt HNB.out) (fun e => HLD.out _ e HDB.out)).trans HNB.out
      have d1 := cell_of_block kb 1
      clear hpm kb
      by_cases hlt : j < (rps k ps).length
      · obtain ⟨p, hp⟩ : ∃ p, (rps k ps)[j]? = some p := ⟨_, List.getElem?_eq_getElem hlt⟩
        obtain ⟨g, cb, rfl, hgl, hDg, hcell, hrn⟩ := HKID.out j p hp
        rw [← HPM.out.1.cell (p := ⟨g, j, none⟩) hgl (fun e => HLD.out _ e hDg)] at hcell
        have HC := hide (HIH.out p (List.mem_of_getElem? hp) wr D cb _ l' (hrn.ext HPM.out.1 (fun q _ hd e => HLD.out q e hd)) (fun q hq => Nat.lt_of_lt_of_le (HDL.out q hq) HPM.out.1.size) HPM.out.2.1 (fun q hq hd => (HPM.out.2.2.2.2 q hq).elim (fun e => HLD.out q e hd) (fun e => by have := HDL.out q hd; omega)) (by
          have h1 := HPM.out.2.2.2.1
          have h2 := HLEN.out
          have h3 := subs_take false hp
          rw [subs_it HIT.out, List.length_append, ← HFA.out.1 false] at h2
          rw [List.length_append] at h1
          omega))
        have HP := hide hp
        clear hp hrn hgl hDg
        go_wp2_with fail
        refine HC.out.mono ?_
        rintro e w2 hp2
        obtain ⟨v2, l2, rfl, hpm2⟩ := pm_step HPM.out hp2
        have HPM2 := hide hpm2
        clear hp2 hpm2 HC
        go_wp2_with fail
        go_roundw
        case measure => simp [intOf]; omega
        case rel => exact ⟨j + 1, l2, by omega, by go_num, by rw [subs_snoc false HP.out, ← List.append_assoc]; exact HPM2.out⟩
      · go_wp2_with fail
        go_ret
        refine ⟨_, l', rfl, ?_⟩
        have h1 := HPM.out
        rw [List.take_of_length_le (by omega), HFA.out.1 false] at h1
        rw [subs_it HIT.out]
        exact h1
  | false =>
    have HQ := hide hq
    obtain ⟨hi, hz0, hz1, hz2⟩ := HI.out
    go_wp2_with (at_builtin; refine wpList_append_own_at _ rfl _ _ 238 rfl 0 9 i0 (.string ByteArray.empty) 1 16 Tryz.underlying238 hi hz0 hz1 hz2 rfl (by decide) _ _ _ rfl (World.ownsRow.alloc HSR.out _) ⟨w.heap.size, 0, none⟩ 1 1 [.string fm] rfl rfl ?c1 ?c2 ?c3 ?c4 ?c5 ?_)
    case c1 =>
      intro q u2 hq2
      match q, hq2 with
      | 0, hq2 => simp at hq2; subst hq2; simp [Addr.add]
    case c2 => intro u2 hu2; simp at hu2; subst hu2; rfl
    case c3 => unfold maxLen; have := HLEN.out; omega
    case c4 => have := HLEN.out; omega
    case c5 => omega
    intro v' wa hown' hgrow _ hat
    have HPM := hide (pm_new HF.out HQ.out ((Ext.refl _ w).alloc _) hgrow hown' (by simpa using hat))
    clear hown' hgrow hat hi hz0 hz1 hz2
    go_wp2_with fail
    go_loopw [2, 9] (fun vv i wr => ∃ (j : Nat) (l' : List ByteArray), j ≤ (rps k ps).length ∧ i = .int .i64 j ∧ PM w (.slice la l.length lc) l ([.mk k word v ps] ++ subsAll false ((rps k ps).take j)) vv l' wr) (fun _ i _ => (rps k ps).length - (intOf i).toNat)
    case atStart => exact ⟨0, _, Nat.zero_le _, rfl, by simpa [subsAll] using HPM.out⟩
    case round =>
      clear HPM
      obtain ⟨j, l', hj, rfl, hpm⟩ := hrel
      have HPM := hide hpm
      obtain ⟨va, vc, hvv, _⟩ := SR.shape hpm.2.1
      subst hvv
      have kb := (hpm.1.block _ (block_lt HNB.out) (fun e => HLD.out _ e HDB.out)).trans HNB.out
      have d1 := cell_of_block kb 1
      clear hpm kb
      by_cases hlt : j < (rps k ps).length
      · obtain ⟨p, hp⟩ : ∃ p, (rps k ps)[j]? = some p := ⟨_, List.getElem?_eq_getElem hlt⟩
        obtain ⟨g, cb, rfl, hgl, hDg, hcell, hrn⟩ := HKID.out j p hp
        rw [← HPM.out.1.cell (p := ⟨g, j, none⟩) hgl (fun e => HLD.out _ e hDg)] at hcell
        have HC := hide (HIH.out p (List.mem_of_getElem? hp) wr D cb _ l' (hrn.ext HPM.out.1 (fun q _ hd e => HLD.out q e hd)) (fun q hq => Nat.lt_of_lt_of_le (HDL.out q hq) HPM.out.1.size) HPM.out.2.1 (fun q hq hd => (HPM.out.2.2.2.2 q hq).elim (fun e => HLD.out q e hd) (fun e => by have := HDL.out q hd; omega)) (by
          have h1 := HPM.out.2.2.2.1
          have h2 := HLEN.out
          have h3 := subs_take false hp
          rw [subs_it HIT.out, List.length_append, ← HFA.out.1 false] at h2
          rw [List.length_append] at h1
          omega))
        have HP := hide hp
        clear hp hrn hgl hDg
        go_wp2_with fail
        refine HC.out.mono ?_
        rintro e w2 hp2
        obtain ⟨v2, l2, rfl, hpm2⟩ := pm_step HPM.out hp2
        have HPM2 := hide hpm2
        clear hp2 hpm2 HC
        go_wp2_with fail
        go_roundw
        case measure => simp [intOf]; omega
        case rel => exact ⟨j + 1, l2, by omega, by go_num, by rw [subs_snoc false HP.out, ← List.append_assoc]; exact HPM2.out⟩
      · go_wp2_with fail
        go_ret
        refine ⟨_, l', rfl, ?_⟩
        have h1 := HPM.out
        rw [List.take_of_length_le (by omega), HFA.out.1 false] at h1
        rw [subs_it HIT.out]
        exact h1

set_option maxRecDepth 100000 in
set_option maxHeartbeats 1000000 in
theorem parts_2_a {w : World} {D : Nat → Prop} {b : Nat} {lv : Value} {l : List ByteArray} {k v : Int} {word wd fm : ByteArray} {ps : List Nd} {pv by_ : Value} (hnb : w.heap[b]? = some (.cells #[.string wd, pv, by_, .bool (rtm k), .string fm] 235)) (hdb : D b) (hf : fm.toList = formOf (.mk k word v ps))
    (hkid : ∃ a cap, pv = .slice a (rps k ps).length cap ∧ ∀ i p, (rps k ps)[i]? = some p → ∃ g c, a = some ⟨g, 0, none⟩ ∧ g < w.heap.size ∧ D g ∧ w.cell? ⟨g, i, none⟩ = some (.pointer (some ⟨c, 0, none⟩)) ∧ RN w D c p)
    (hfa : (∀ t, subsAll t (rps k ps) = subsAll t ps) ∧ True) (hdl : ∀ q, D q → q < w.heap.size) (hsr : SR w lv l) (hld : ∀ g, lv.ownBlock = some g → ¬ D g) (hlen : l.length + (subs false (.mk k word v ps)).length ≤ 100000000)
    (hih : ∀ p ∈ rps k ps, ∀ (w : World) (D : Nat → Prop) (b : Nat) (lv : Value) (l : List ByteArray), RN w D b p → (∀ q, D q → q < w.heap.size) → SR w lv l → (∀ g, lv.ownBlock = some g → ¬ D g) → l.length + (subs false p).length ≤ 100000000 → Calls Tryz.prog 163 #[.pointer (some ⟨b, 0, none⟩), .bool false, lv] w (PartsPost w lv l (subs false p)))
    (hlk : (rps k ps).length ≤ 100000000) (hr : rtm k = false) (hit : isIt false k = true) (hw : wd.toList = [60, 61]) :
    Calls Tryz.prog 163 #[.pointer (some ⟨b, 0, none⟩), .bool false, lv] w (PartsPost w lv l (subs false (.mk k word v ps))) := by
  obtain ⟨ka, kc, rfl, hkid⟩ := hkid
  obtain ⟨la, lc, rfl, _⟩ := SR.shape hsr
  have HNB := hide hnb
  have HDB := hide hdb
  have HF := hide hf
  have HKID := hide hkid
  have HFA := hide hfa
  have HDL := hide hdl
  have HSR := hide hsr
  have HLD := hide hld
  have HLEN := hide hlen
  have HIH := hide hih
  have c0 := cell_of_block hnb 0
  have c1 := cell_of_block hnb 1
  have c3 := cell_of_block hnb 3
  have c4 := cell_of_block hnb 4
  obtain ⟨i0, hi, hz0, hz1, hz2⟩ := info_parts infoStr
  have HI : Hid (Tryz.prog.info? 9 = some i0 ∧ i0.zero = some (.string ByteArray.empty) ∧ i0.size = 1 ∧ i0.bytes = 16) := ⟨hi, hz0, hz1, hz2⟩
  clear hnb hdb hf hkid hfa hdl hsr hld hlen hih hi hz0 hz1 hz2
  rw [hr] at HNB c3
  have a0 : (wd.toList == [61]) = false := by rw [hw]; decide
  have a1 : (wd.toList == [60]) = false := by rw [hw]; decide
  have a2 : (wd.toList == [60, 61]) = true := by rw [hw]; decide
  clear hw
  have HIT := hide hit
  clear hit
  go_enter Tryz.func163, Tryz.ntmps163
  go_wp2_with fail
  refine (among_any HSR.out fm (by have := HLEN.out; omega)).mono ?_
  rintro e w' ⟨rfl, hw⟩
  rw [hw]
  clear hw w'
  cases hq : amongB l fm with
  | true =>
    have HPM := hide (pm_there HSR.out HF.out hq)
    go_wp2_with fail
    go_loopw [2, 9] (fun vv i wr => ∃ (j : Nat) (l' : List ByteArray), j ≤ (rps k ps).length ∧ i = .int .i64 j ∧ PM w (.slice la l.length lc) l ([.mk k word v ps] ++ subsAll false ((rps k ps).take j)) vv l' wr) (fun _ i _ => (rps k ps).length - (intOf i).toNat)
    case atStart => exact ⟨0, _, Nat.zero_le _, rfl, by simpa [subsAll] using HPM.out⟩
    case round =>
      clear HPM
      obtain ⟨j, l', hj, rfl, hpm⟩ := hrel
      have HPM := hide hpm
      obtain ⟨va, vc, hvv, _⟩ := SR.shape hpm.2.1
      subst hvv
      have kb := (hpm.1.block _ (block_lt HNB.out) (fun e => HLD.out _ e HDB.out)).trans HNB.out
      have d1 := cell_of_block kb 1
      clear hpm kb
      by_cases hlt : j < (rps k ps).length
      · obtain ⟨p, hp⟩ : ∃ p, (rps k ps)[j]? = some p := ⟨_, List.getElem?_eq_getElem hlt⟩
        obtain ⟨g, cb, rfl, hgl, hDg, hcell, hrn⟩ := HKID.out j p hp
        rw [← HPM.out.1.cell (p := ⟨g, j, none⟩) hgl (fun e => HLD.out _ e hDg)] at hcell
        have HC := hide (HIH.out p (List.mem_of_getElem? hp) wr D cb _ l' (hrn.ext HPM.out.1 (fun q _ hd e => HLD.out q e hd)) (fun q hq => Nat.lt_of_lt_of_le (HDL.out q hq) HPM.out.1.size) HPM.out.2.1 (fun q hq hd => (HPM.out.2.2.2.2 q hq).elim (fun e => HLD.out q e hd) (fun e => by have := HDL.out q hd; omega)) (by
          have h1 := HPM.out.2.2.2.1
          have h2 := HLEN.out
          have h3 := subs_take false hp
          rw [subs_it HIT.out, List.length_append, ← HFA.out.1 false] at h2
          rw [List.length_append] at h1
          omega))
        have HP := hide hp
        clear hp hrn hgl hDg
        go_wp2_with fail
        refine HC.out.mono ?_
        rintro e w2 hp2
        obtain ⟨v2, l2, rfl, hpm2⟩ := pm_step HPM.out hp2
        have HPM2 := hide hpm2
        clear hp2 hpm2 HC
        go_wp2_with fail
        go_roundw
        case measure => simp [intOf]; omega
        case rel => exact ⟨j + 1, l2, by omega, by go_num, by rw [subs_snoc false HP.out, ← List.append_assoc]; exact HPM2.out⟩
      · go_wp2_with fail
        go_ret
        refine ⟨_, l', rfl, ?_⟩
        have h1 := HPM.out
        rw [List.take_of_length_le (by omega), HFA.out.1 false] at h1
        rw [subs_it HIT.out]
        exact h1
  | false =>
    have HQ := hide hq
    obtain ⟨hi, hz0, hz1, hz2⟩ := HI.out
    go_wp2_with (at_builtin; refine wpList_append_own_at _ rfl _ _ 238 rfl 0 9 i0 (.string ByteArray.empty) 1 16 Tryz.underlying238 hi hz0 hz1 hz2 rfl (by decide) _ _ _ rfl (World.ownsRow.alloc HSR.out _) ⟨w.heap.size, 0, none⟩ 1 1 [.string fm] rfl rfl ?c1 ?c2 ?c3 ?c4 ?c5 ?_)
    case c1 =>
      intro q u2 hq2
      match q, hq2 with
      | 0, hq2 => simp at hq2; subst hq2; simp [Addr.add]
    case c2 => intro u2 hu2; simp at hu2; subst hu2; rfl
    case c3 => unfold maxLen; have := HLEN.out; omega
    case c4 => have := HLEN.out; omega
    case c5 => omega
    intro v' wa hown' hgrow _ hat
    have HPM := hide (pm_new HF.out HQ.out ((Ext.refl _ w).alloc _) hgrow hown' (by simpa using hat))
    clear hown' hgrow hat hi hz0 hz1 hz2
    go_wp2_with fail
    go_loopw [2, 9] (fun vv i wr => ∃ (j : Nat) (l' : List ByteArray), j ≤ (rps k ps).length ∧ i = .int .i64 j ∧ PM w (.slice la l.length lc) l ([.mk k word v ps] ++ subsAll false ((rps k ps).take j)) vv l' wr) (fun _ i _ => (rps k ps).length - (intOf i).toNat)
    case atStart => exact ⟨0, _, Nat.zero_le _, rfl, by simpa [subsAll] using HPM.out⟩
    case round =>
      clear HPM
      obtain ⟨j, l', hj, rfl, hpm⟩ := hrel
      have HPM := hide hpm
      obtain ⟨va, vc, hvv, _⟩ := SR.shape hpm.2.1
      subst hvv
      have kb := (hpm.1.block _ (block_lt HNB.out) (fun e => HLD.out _ e HDB.out)).trans HNB.out
      have d1 := cell_of_block kb 1
      clear hpm kb
      by_cases hlt : j < (rps k ps).length
      · obtain ⟨p, hp⟩ : ∃ p, (rps k ps)[j]? = some p := ⟨_, List.getElem?_eq_getElem hlt⟩
        obtain ⟨g, cb, rfl, hgl, hDg, hcell, hrn⟩ := HKID.out j p hp
        rw [← HPM.out.1.cell (p := ⟨g, j, none⟩) hgl (fun e => HLD.out _ e hDg)] at hcell
        have HC := hide (HIH.out p (List.mem_of_getElem? hp) wr D cb _ l' (hrn.ext HPM.out.1 (fun q _ hd e => HLD.out q e hd)) (fun q hq => Nat.lt_of_lt_of_le (HDL.out q hq) HPM.out.1.size) HPM.out.2.1 (fun q hq hd => (HPM.out.2.2.2.2 q hq).elim (fun e => HLD.out q e hd) (fun e => by have := HDL.out q hd; omega)) (by
          have h1 := HPM.out.2.2.2.1
          have h2 := HLEN.out
          have h3 := subs_take false hp
          rw [subs_it HIT.out, List.length_append, ← HFA.out.1 false] at h2
          rw [List.length_append] at h1
          omega))
        have HP := hide hp
        clear hp hrn hgl hDg
        go_wp2_with fail
        refine HC.out.mono ?_
        rintro e w2 hp2
        obtain ⟨v2, l2, rfl, hpm2⟩ := pm_step HPM.out hp2
        have HPM2 := hide hpm2
        clear hp2 hpm2 HC
        go_wp2_with fail
        go_roundw
        case measure => simp [intOf]; omega
        case rel => exact ⟨j + 1, l2, by omega, by go_num, by rw [subs_snoc false HP.out, ← List.append_assoc]; exact HPM2.out⟩
      · go_wp2_with fail
        go_ret
        refine ⟨_, l', rfl, ?_⟩
        have h1 := HPM.out
        rw [List.take_of_length_le (by omega), HFA.out.1 false] at h1
        rw [subs_it HIT.out]
        exact h1

set_option maxRecDepth 100000 in
set_option maxHeartbeats 1000000 in
theorem parts_3_a {w : World} {D : Nat → Prop} {b : Nat} {lv : Value} {l : List ByteArray} {k v : Int} {word wd fm : ByteArray} {ps : List Nd} {pv by_ : Value} (hnb : w.heap[b]? = some (.cells #[.string wd, pv, by_, .bool (rtm k), .string fm] 235)) (hdb : D b) (hf : fm.toList = formOf (.mk k word v ps))
    (hkid : ∃ a cap, pv = .slice a (rps k ps).length cap ∧ ∀ i p, (rps k ps)[i]? = some p → ∃ g c, a = some ⟨g, 0, none⟩ ∧ g < w.heap.size ∧ D g ∧ w.cell? ⟨g, i, none⟩ = some (.pointer (some ⟨c, 0, none⟩)) ∧ RN w D c p)
    (hfa : (∀ t, subsAll t (rps k ps) = subsAll t ps) ∧ True) (hdl : ∀ q, D q → q < w.heap.size) (hsr : SR w lv l) (hld : ∀ g, lv.ownBlock = some g → ¬ D g) (hlen : l.length + (subs false (.mk k word v ps)).length ≤ 100000000)
    (hih : ∀ p ∈ rps k ps, ∀ (w : World) (D : Nat → Prop) (b : Nat) (lv : Value) (l : List ByteArray), RN w D b p → (∀ q, D q → q < w.heap.size) → SR w lv l → (∀ g, lv.ownBlock = some g → ¬ D g) → l.length + (subs false p).length ≤ 100000000 → Calls Tryz.prog 163 #[.pointer (some ⟨b, 0, none⟩), .bool false, lv] w (PartsPost w lv l (subs false p)))
    (hlk : (rps k ps).length ≤ 100000000) (hr : rtm k = false) (hit : isIt false k = true) (hw : wd.toList = wLe) :
    Calls Tryz.prog 163 #[.pointer (some ⟨b, 0, none⟩), .bool false, lv] w (PartsPost w lv l (subs false (.mk k word v ps))) := by
  obtain ⟨ka, kc, rfl, hkid⟩ := hkid
  obtain ⟨la, lc, rfl, _⟩ := SR.shape hsr
  have HNB := hide hnb
  have HDB := hide hdb
  have HF := hide hf
  have HKID := hide hkid
  have HFA := hide hfa
  have HDL := hide hdl
  have HSR := hide hsr
  have HLD := hide hld
  have HLEN := hide hlen
  have HIH := hide hih
  have c0 := cell_of_block hnb 0
  have c1 := cell_of_block hnb 1
  have c3 := cell_of_block hnb 3
  have c4 := cell_of_block hnb 4
  obtain ⟨i0, hi, hz0, hz1, hz2⟩ := info_parts infoStr
  have HI : Hid (Tryz.prog.info? 9 = some i0 ∧ i0.zero = some (.string ByteArray.empty) ∧ i0.size = 1 ∧ i0.bytes = 16) := ⟨hi, hz0, hz1, hz2⟩
  clear hnb hdb hf hkid hfa hdl hsr hld hlen hih hi hz0 hz1 hz2
  rw [hr] at HNB c3
  have a0 : (wd.toList == [61]) = false := by rw [hw]; decide
  have a1 : (wd.toList == [60]) = false := by rw [hw]; decide
  have a2 : (wd.toList == [60, 61]) = false := by rw [hw]; decide
  have a3 : (wd.toList == [108, 101]) = true := by rw [hw]; decide
  clear hw
  have HIT := hide hit
  clear hit
  go_enter Tryz.func163, Tryz.ntmps163
  go_wp2_with fail
  refine (among_any HSR.out fm (by have := HLEN.out; omega)).mono ?_
  rintro e w' ⟨rfl, hw⟩
  rw [hw]
  clear hw w'
  cases hq : amongB l fm with
  | true =>
    have HPM := hide (pm_there HSR.out HF.out hq)
    go_wp2_with fail
    go_loopw [2, 9] (fun vv i wr => ∃ (j : Nat) (l' : List ByteArray), j ≤ (rps k ps).length ∧ i = .int .i64 j ∧ PM w (.slice la l.length lc) l ([.mk k word v ps] ++ subsAll false ((rps k ps).take j)) vv l' wr) (fun _ i _ => (rps k ps).length - (intOf i).toNat)
    case atStart => exact ⟨0, _, Nat.zero_le _, rfl, by simpa [subsAll] using HPM.out⟩
    case round =>
      clear HPM
      obtain ⟨j, l', hj, rfl, hpm⟩ := hrel
      have HPM := hide hpm
      obtain ⟨va, vc, hvv, _⟩ := SR.shape hpm.2.1
      subst hvv
      have kb := (hpm.1.block _ (block_lt HNB.out) (fun e => HLD.out _ e HDB.out)).trans HNB.out
      have d1 := cell_of_block kb 1
      clear hpm kb
      by_cases hlt : j < (rps k ps).length
      · obtain ⟨p, hp⟩ : ∃ p, (rps k ps)[j]? = some p := ⟨_, List.getElem?_eq_getElem hlt⟩
        obtain ⟨g, cb, rfl, hgl, hDg, hcell, hrn⟩ := HKID.out j p hp
        rw [← HPM.out.1.cell (p := ⟨g, j, none⟩) hgl (fun e => HLD.out _ e hDg)] at hcell
        have HC := hide (HIH.out p (List.mem_of_getElem? hp) wr D cb _ l' (hrn.ext HPM.out.1 (fun q _ hd e => HLD.out q e hd)) (fun q hq => Nat.lt_of_lt_of_le (HDL.out q hq) HPM.out.1.size) HPM.out.2.1 (fun q hq hd => (HPM.out.2.2.2.2 q hq).elim (fun e => HLD.out q e hd) (fun e => by have := HDL.out q hd; omega)) (by
          have h1 := HPM.out.2.2.2.1
          have h2 := HLEN.out
          have h3 := subs_take false hp
          rw [subs_it HIT.out, List.length_append, ← HFA.out.1 false] at h2
          rw [List.length_append] at h1
          omega))
        have HP := hide hp
        clear hp hrn hgl hDg
        go_wp2_with fail
        refine HC.out.mono ?_
        rintro e w2 hp2
        obtain ⟨v2, l2, rfl, hpm2⟩ := pm_step HPM.out hp2
        have HPM2 := hide hpm2
        clear hp2 hpm2 HC
        go_wp2_with fail
        go_roundw
        case measure => simp [intOf]; omega
        case rel => exact ⟨j + 1, l2, by omega, by go_num, by rw [subs_snoc false HP.out, ← List.append_assoc]; exact HPM2.out⟩
      · go_wp2_with fail
        go_ret
        refine ⟨_, l', rfl, ?_⟩
        have h1 := HPM.out
        rw [List.take_of_length_le (by omega), HFA.out.1 false] at h1
        rw [subs_it HIT.out]
        exact h1
  | false =>
    have HQ := hide hq
    obtain ⟨hi, hz0, hz1, hz2⟩ := HI.out
    go_wp2_with (at_builtin; refine wpList_append_own_at _ rfl _ _ 238 rfl 0 9 i0 (.string ByteArray.empty) 1 16 Tryz.underlying238 hi hz0 hz1 hz2 rfl (by decide) _ _ _ rfl (World.ownsRow.alloc HSR.out _) ⟨w.heap.size, 0, none⟩ 1 1 [.string fm] rfl rfl ?c1 ?c2 ?c3 ?c4 ?c5 ?_)
    case c1 =>
      intro q u2 hq2
      match q, hq2 with
      | 0, hq2 => simp at hq2; subst hq2; simp [Addr.add]
    case c2 => intro u2 hu2; simp at hu2; subst hu2; rfl
    case c3 => unfold maxLen; have := HLEN.out; omega
    case c4 => have := HLEN.out; omega
    case c5 => omega
    intro v' wa hown' hgrow _ hat
    have HPM := hide (pm_new HF.out HQ.out ((Ext.refl _ w).alloc _) hgrow hown' (by simpa using hat))
    clear hown' hgrow hat hi hz0 hz1 hz2
    go_wp2_with fail
    go_loopw [2, 9] (fun vv i wr => ∃ (j : Nat) (l' : List ByteArray), j ≤ (rps k ps).length ∧ i = .int .i64 j ∧ PM w (.slice la l.length lc) l ([.mk k word v ps] ++ subsAll false ((rps k ps).take j)) vv l' wr) (fun _ i _ => (rps k ps).length - (intOf i).toNat)
    case atStart => exact ⟨0, _, Nat.zero_le _, rfl, by simpa [subsAll] using HPM.out⟩
    case round =>
      clear HPM
      obtain ⟨j, l', hj, rfl, hpm⟩ := hrel
      have HPM := hide hpm
      obtain ⟨va, vc, hvv, _⟩ := SR.shape hpm.2.1
      subst hvv
      have kb := (hpm.1.block _ (block_lt HNB.out) (fun e => HLD.out _ e HDB.out)).trans HNB.out
      have d1 := cell_of_block kb 1
      clear hpm kb
      by_cases hlt : j < (rps k ps).length
      · obtain ⟨p, hp⟩ : ∃ p, (rps k ps)[j]? = some p := ⟨_, List.getElem?_eq_getElem hlt⟩
        obtain ⟨g, cb, rfl, hgl, hDg, hcell, hrn⟩ := HKID.out j p hp
        rw [← HPM.out.1.cell (p := ⟨g, j, none⟩) hgl (fun e => HLD.out _ e hDg)] at hcell
        have HC := hide (HIH.out p (List.mem_of_getElem? hp) wr D cb _ l' (hrn.ext HPM.out.1 (fun q _ hd e => HLD.out q e hd)) (fun q hq => Nat.lt_of_lt_of_le (HDL.out q hq) HPM.out.1.size) HPM.out.2.1 (fun q hq hd => (HPM.out.2.2.2.2 q hq).elim (fun e => HLD.out q e hd) (fun e => by have := HDL.out q hd; omega)) (by
          have h1 := HPM.out.2.2.2.1
          have h2 := HLEN.out
          have h3 := subs_take false hp
          rw [subs_it HIT.out, List.length_append, ← HFA.out.1 false] at h2
          rw [List.length_append] at h1
          omega))
        have HP := hide hp
        clear hp hrn hgl hDg
        go_wp2_with fail
        refine HC.out.mono ?_
        rintro e w2 hp2
        obtain ⟨v2, l2, rfl, hpm2⟩ := pm_step HPM.out hp2
        have HPM2 := hide hpm2
        clear hp2 hpm2 HC
        go_wp2_with fail
        go_roundw
        case measure => simp [intOf]; omega
        case rel => exact ⟨j + 1, l2, by omega, by go_num, by rw [subs_snoc false HP.out, ← List.append_assoc]; exact HPM2.out⟩
      · go_wp2_with fail
        go_ret
        refine ⟨_, l', rfl, ?_⟩
        have h1 := HPM.out
        rw [List.take_of_length_le (by omega), HFA.out.1 false] at h1
        rw [subs_it HIT.out]
        exact h1

end Go.Proofs.YtegbdaffhpiacaaGreatDoor

/- The document's own answer: the terms, or the atoms, of a tree: all kinds of nodes. -/
namespace Go.Proofs.YtegbdaffhpiacaaGreatDoor
open Go.RowKit Ar

theorem forms_sum_le {ps : List Nd} : ps.length ≤ (formsOf ps).length ∧ ∀ p ∈ ps, (formOf p).length ≤ (formsOf ps).length := by
  induction ps with
  | nil => exact ⟨Nat.le_refl _, fun p hp => absurd hp (by simp)⟩
  | cons q qs ih =>
    simp only [formsOf, List.length_cons, List.length_append]
    refine ⟨by have := ih.1; omega, fun p hp => ?_⟩
    rcases List.mem_cons.1 hp with rfl | hp
    · omega
    · have := ih.2 p hp; omega

theorem form_sum_ge {k v : Int} {w : ByteArray} {ps : List Nd} : (formsOf ps).length ≤ (formOf (.mk k w v ps)).length := by
  rw [formOf]
  split
  · simp only [List.length_cons, List.length_append]; omega
  · rename_i h
    have : ps = [] := by
      cases ps with
      | nil => rfl
      | cons p ps => exact absurd (Or.inr (Or.inr (by simp))) h
    subst this
    simp [formsOf]

theorem rps_sub {k : Int} {ps : List Nd} : (rps k ps).length ≤ ps.length ∧ ∀ p ∈ rps k ps, p ∈ ps := by
  unfold rps
  split
  · exact ⟨by simp; omega, fun p hp => List.mem_of_mem_take hp⟩
  · exact ⟨Nat.le_refl _, fun _ h => h⟩

theorem parts_any (t : Bool) (n : Nat) : ∀ (nd : Nd), SizeOf.sizeOf nd ≤ n → (TmOk nd ∨ FmOk nd) → (formOf nd).length ≤ 1000000 → ∀ (w : World) (D : Nat → Prop) (b : Nat) (lv : Value) (l : List ByteArray), RN w D b nd → (∀ q, D q → q < w.heap.size) → SR w lv l → (∀ g, lv.ownBlock = some g → ¬ D g) → l.length + (subs t nd).length ≤ 100000000 →
    Calls Tryz.prog 163 #[.pointer (some ⟨b, 0, none⟩), .bool t, lv] w (PartsPost w lv l (subs t nd)) := by
  induction n with
  | zero => intro nd h; exact absurd h (by cases nd; simp)
  | succ n ih =>
    intro nd hn hok hfl w D b lv l hrn hdl hsr hld hlen
    cases hrn with
    | @mk _ k word v ps pv form kids hb hlo hf how hD hk =>
      obtain ⟨hcase, hsub, hpok⟩ := node_facts hok
      have h1 := form_sum_ge (k := k) (v := v) (w := word) (ps := ps)
      have h2 := forms_sum_le (ps := ps)
      have h3 := rps_sub (k := k) (ps := ps)
      have hkid := kid_at how hk hD
      have hih : ∀ t', t' = t → ∀ p ∈ rps k ps, ∀ (w : World) (D : Nat → Prop) (b : Nat) (lv : Value) (l : List ByteArray), RN w D b p → (∀ q, D q → q < w.heap.size) → SR w lv l → (∀ g, lv.ownBlock = some g → ¬ D g) → l.length + (subs t' p).length ≤ 100000000 → Calls Tryz.prog 163 #[.pointer (some ⟨b, 0, none⟩), .bool t', lv] w (PartsPost w lv l (subs t' p)) := by
        rintro t' rfl p hp
        exact ih p (by have := size_part (v := v) (word := word) hp; omega) (hpok p hp) (by have := h2.2 p (h3.2 p hp); omega)
      have hlk : (rps k ps).length ≤ 100000000 := by omega
      cases t with
      | true =>
        rcases hcase with ⟨hr, i1, i2⟩ | ⟨hr, hw, i1, i2⟩ | ⟨hr, hw, i1, i2⟩
        · exact parts_term_t hb hlo hf hkid ⟨hsub, trivial⟩ hdl hsr hld hlen (hih _ rfl) hlk hr i1
        · rcases hw with hw | hw | hw | hw
          · exact parts_0_t hb hlo hf hkid ⟨hsub, trivial⟩ hdl hsr hld hlen (hih _ rfl) hlk hr i2 hw
          · exact parts_1_t hb hlo hf hkid ⟨hsub, trivial⟩ hdl hsr hld hlen (hih _ rfl) hlk hr i2 hw
          · exact parts_2_t hb hlo hf hkid ⟨hsub, trivial⟩ hdl hsr hld hlen (hih _ rfl) hlk hr i2 hw
          · exact parts_3_t hb hlo hf hkid ⟨hsub, trivial⟩ hdl hsr hld hlen (hih _ rfl) hlk hr i2 hw
        · exact parts_other_t hb hlo hf hkid ⟨hsub, trivial⟩ hdl hsr hld hlen (hih _ rfl) hlk hr i2 hw
      | false =>
        rcases hcase with ⟨hr, i1, i2⟩ | ⟨hr, hw, i1, i2⟩ | ⟨hr, hw, i1, i2⟩
        · exact parts_term_a hb hlo hf hkid ⟨hsub, trivial⟩ hdl hsr hld hlen (hih _ rfl) hlk hr i2
        · rcases hw with hw | hw | hw | hw
          · exact parts_0_a hb hlo hf hkid ⟨hsub, trivial⟩ hdl hsr hld hlen (hih _ rfl) hlk hr i1 hw
          · exact parts_1_a hb hlo hf hkid ⟨hsub, trivial⟩ hdl hsr hld hlen (hih _ rfl) hlk hr i1 hw
          · exact parts_2_a hb hlo hf hkid ⟨hsub, trivial⟩ hdl hsr hld hlen (hih _ rfl) hlk hr i1 hw
          · exact parts_3_a hb hlo hf hkid ⟨hsub, trivial⟩ hdl hsr hld hlen (hih _ rfl) hlk hr i1 hw
        · exact parts_other_a hb hlo hf hkid ⟨hsub, trivial⟩ hdl hsr hld hlen (hih _ rfl) hlk hr i1 hw

end Go.Proofs.YtegbdaffhpiacaaGreatDoor

/- The document's own answer: a session with its formulas; how many terms, or atoms, they have. -/
namespace Go.Proofs.YtegbdaffhpiacaaGreatDoor
open Go.RowKit Ar

theorem RN.within {w : World} {D : Nat → Prop} {b : Nat} {nd : Nd} (h : RN w D b nd) : RN w (fun k => D k ∧ k < w.heap.size) b nd := by
  induction h with
  | mk hb hlo hf how hd _ ih => exact RN.mk hb ⟨hlo, block_lt hb⟩ hf how (fun g hg => ⟨hd g hg, (how.lt g hg).2⟩) ih

/-- A formula that was laid down: where its tree lies, the tree, its frame. -/
structure Ld where
  b : Nat
  nd : Nd
  fr : Int

def ldCells (X : List Ld) : List Value := X.flatMap (fun x => [kp x.b, .int .i64 x.fr])

theorem ldCells_snoc (X : List Ld) (x : Ld) : ldCells (X ++ [x]) = ldCells X ++ [kp x.b, .int .i64 x.fr] := by simp [ldCells]

theorem ldCells_len (X : List Ld) : (ldCells X).length = X.length * 2 := by
  induction X with
  | nil => rfl
  | cons a b ih => simp only [ldCells, List.flatMap_cons, List.length_append] at ih ⊢; simp at ih ⊢; omega

theorem ldCells_get {X : List Ld} {i : Nat} {x : Ld} (h : X[i]? = some x) : (ldCells X)[i * 2]? = some (kp x.b) ∧ (ldCells X)[i * 2 + 1]? = some (.int .i64 x.fr) := by
  obtain ⟨hi, hx⟩ := List.getElem?_eq_some_iff.1 h
  have e : X.take i ++ x :: X.drop (i + 1) = X := by rw [← hx, List.getElem_cons_drop, List.take_append_drop]
  have e2 : ldCells (X.take i ++ x :: X.drop (i + 1)) = ldCells (X.take i) ++ ([kp x.b, .int .i64 x.fr] ++ ldCells (X.drop (i + 1))) := by
    simp [ldCells]
  rw [e] at e2
  have hl : (ldCells (X.take i)).length = i * 2 := by rw [ldCells_len, List.length_take]; congr 1; omega
  rw [e2]
  constructor
  · rw [List.getElem?_append_right (by rw [hl]; omega), hl]
    have : i * 2 - i * 2 = 0 := by omega
    rw [this]; rfl
  · rw [List.getElem?_append_right (by rw [hl]; omega), hl]
    have : i * 2 + 1 - i * 2 = 1 := by omega
    rw [this]; rfl

/-- A session of the document's own answer with its formulas, whose trees lie in blocks of the kind D. -/
structure RefT (w : World) (sb : Nat) (N : List Nm) (X : List Ld) (nv lv : Value) (F : Int) (D : Nat → Prop) : Prop where
  s : RefS w sb N nv lv F
  own : w.ownsRow 0 174 2 lv X.length (ldCells X)
  rn : ∀ x ∈ X, RN w D x.b x.nd
  ok : ∀ x ∈ X, FmOk x.nd ∧ (formOf x.nd).length ≤ 1000000
  few : X.length ≤ 20
  f0 : 0 ≤ F
  f20 : F ≤ 20
  lsb : ∀ g, lv.ownBlock = some g → ¬ g = sb
  lnv : ∀ g, lv.ownBlock = some g → ¬ nv.ownBlock = some g
  dlt : ∀ k, D k → k < w.heap.size
  dsb : ¬ D sb
  dnv : ∀ g, nv.ownBlock = some g → ¬ D g
  dlv : ∀ g, lv.ownBlock = some g → ¬ D g

theorem RefT.ext {S : Nat → Prop} {w w' : World} {sb : Nat} {N : List Nm} {X : List Ld} {nv lv : Value} {F : Int} {D : Nat → Prop} (h : RefT w sb N X nv lv F D) (hx : Ext S w w') (h1 : ¬ S sb) (h2 : ∀ g, nv.ownBlock = some g → ¬ S g) (h3 : ∀ g, lv.ownBlock = some g → ¬ S g) (h4 : ∀ k, D k → ¬ S k) : RefT w' sb N X nv lv F D :=
  ⟨h.s.ext hx h1 h2, own_ext h.own hx h3, fun x hX => (h.rn x hX).ext hx (fun k _ hk => h4 k hk), h.ok, h.few, h.f0, h.f20, h.lsb, h.lnv, fun k hk => Nat.lt_of_lt_of_le (h.dlt k hk) hx.size, h.dsb, h.dnv, h.dlv⟩

theorem RefT.row {w : World} {sb : Nat} {N : List Nm} {X : List Ld} {nv lv : Value} {F : Int} {D : Nat → Prop} (h : RefT w sb N X nv lv F D) : ∃ a cap, lv = .slice a X.length cap ∧ ∀ i x, X[i]? = some x → ∃ g, a = some ⟨g, 0, none⟩ ∧ g < w.heap.size ∧ lv.ownBlock = some g ∧ w.cell? ⟨g, i * 2, none⟩ = some (.pointer (some ⟨x.b, 0, none⟩)) ∧ w.cell? ⟨g, i * 2 + 1, none⟩ = some (.int .i64 x.fr) := by
  have hown := h.own
  rcases hown.2 with ⟨e, e0⟩ | ⟨g, cap, cur, hv, hg, hh, hr⟩
  · refine ⟨none, 0, by rw [e, e0], fun i x hx => ?_⟩
    have := (List.getElem?_eq_some_iff.1 hx).1
    omega
  · refine ⟨some ⟨g, 0, none⟩, cap, hv, fun i x hx => ⟨g, rfl, block_lt hh, by rw [hv]; rfl, ?_⟩⟩
    have hi := (List.getElem?_eq_some_iff.1 hx).1
    have hc : ∀ j, j < X.length * 2 → w.cell? ⟨g, j, none⟩ = (ldCells X)[j]? := by
      intro j hj
      rw [hv] at hown
      exact hown.cellAt j hj
    rw [hc _ (by omega), hc _ (by omega)]
    exact ldCells_get hx

/-- The trees of a session. -/
def nds (X : List Ld) : List Nd := X.map (·.nd)

theorem PM.cast {w wr : World} {lv v : Value} {l l' : List ByteArray} {xs ys : List Nd} (h : PM w lv l xs v l' wr) (e : xs = ys) : PM w lv l ys v l' wr := e ▸ h

theorem subsAll_few {t : Bool} : ∀ {qs : List Nd}, (∀ q ∈ qs, FmOk q ∧ (formOf q).length ≤ 1000000) → (subsAll t qs).length ≤ qs.length * 1000000
  | [], _ => by simp [subsAll]
  | q :: qs, h => by
    have h1 := form_few (h q (by simp)).1 t
    have h2 := (h q (by simp)).2
    have h3 := subsAll_few (t := t) (qs := qs) (fun p hp => h p (List.mem_cons_of_mem _ hp))
    simp only [subsAll, List.length_append, List.length_cons]
    omega

set_option maxRecDepth 100000 in
set_option maxHeartbeats 1000000 in
theorem count_any {w : World} {sb b : Nat} {N : List Nm} {X : List Ld} {nv lv : Value} {F : Int} {D E : Nat → Prop} {nd : Nd} (t : Bool) (h : RefT w sb N X nv lv F D) (hnd : RN w E b nd) (hE : ∀ k, E k → k < w.heap.size) (hok : FmOk nd) (hfl : (formOf nd).length ≤ 1000000) :
    Calls Tryz.prog 120 #[.pointer (some ⟨sb, 0, none⟩), .pointer (some ⟨b, 0, none⟩), .bool t] w fun e w' => e = .returned (.int .i64 (addAll [] (subsAll t (nds X ++ [nd]))).length) ∧ Ext (fun _ => False) w w' := by
  obtain ⟨ar, cap, rfl, hrow⟩ := h.row
  obtain ⟨ans, hb⟩ := h.s.blk
  have c1 := cell_of_block hb 1
  have hfew := h.few
  have hsb := block_lt hb
  have hall : ∀ q ∈ nds X, FmOk q ∧ (formOf q).length ≤ 1000000 := by
    intro q hq
    obtain ⟨x, hx, rfl⟩ := List.mem_map.1 hq
    exact h.ok x hx
  have HALL := hide hall
  have H := hide h
  have HB := hide hb
  have HROW := hide hrow
  have HND := hide hnd
  have HE := hide hE
  have HOK := hide hok
  have HFL := hide hfl
  clear h hb hrow hnd hE hok hfl hall
  go_enter Tryz.func120, Tryz.ntmps120
  go_wp2_with fail
  go_loopw [7, 8] (fun vv i wr => ∃ (j : Nat) (l' : List ByteArray), j ≤ X.length ∧ i = .int .i64 j ∧ PM w (.slice none 0 0) [] (subsAll t ((nds X).take j)) vv l' wr) (fun _ i _ => X.length - (intOf i).toNat)
  case atStart => exact ⟨0, [], Nat.zero_le _, rfl, (pm_refl (show SR w (.slice none 0 0) [] from World.ownsRow_nil _ _ _ _)).cast rfl⟩
  case round =>
    clear c1
    obtain ⟨j, l', hj, rfl, hpm⟩ := hrel
    have HPM := hide hpm
    obtain ⟨va, vc, hvv, _⟩ := SR.shape hpm.2.1
    subst hvv
    have hxf : Ext (fun _ => False) w wr := hpm.1.mono (fun _ _ e => absurd e (by simp [Value.ownBlock]))
    have kb := (hxf.block _ hsb (fun f => f)).trans HB.out
    have c1 := cell_of_block kb 1
    have HXF := hide hxf
    have hlj : l'.length ≤ 20000000 := by
      have h1 := hpm.2.2.2.1
      have h2 := subsAll_few (t := t) (qs := (nds X).take j) (fun q hq => HALL.out q (List.mem_of_mem_take hq))
      have h3 : ((nds X).take j).length ≤ 20 := by simp [nds]; omega
      simp at h1
      omega
    clear hpm kb hxf
    by_cases hlt : j < X.length
    · obtain ⟨x, hx⟩ : ∃ x, X[j]? = some x := ⟨_, List.getElem?_eq_getElem hlt⟩
      obtain ⟨g, rfl, hgl, hog, e1, e2⟩ := HROW.out j x hx
      rw [← HXF.out.cell (p := ⟨g, j * 2, none⟩) hgl (fun f => f)] at e1
      have hX := List.mem_of_getElem? hx
      have HC := hide (parts_any t _ x.nd (Nat.le_refl _) (.inr (H.out.ok x hX).1) (H.out.ok x hX).2 wr D x.b _ l' ((H.out.rn x hX).ext HXF.out (fun _ _ _ f => f)) (fun k hk => Nat.lt_of_lt_of_le (H.out.dlt k hk) HXF.out.size) HPM.out.2.1 (fun k hk hd => (HPM.out.2.2.2.2 k hk).elim (fun e => absurd e (by simp [Value.ownBlock])) (fun e => by have := H.out.dlt k hd; omega)) (by
        have h1 := form_few (H.out.ok x hX).1 t
        have h2 := (H.out.ok x hX).2
        omega))
      have HX : Hid ((nds X)[j]? = some x.nd) := by show _ = _; rw [nds, List.getElem?_map, hx]; rfl
      clear hx hX e2 hgl hog
      go_wp2_with fail
      refine HC.out.mono ?_
      rintro e w2 hp2
      obtain ⟨v2, l2, rfl, hpm2⟩ := pm_step HPM.out hp2
      have HPM2 := hide hpm2
      clear hp2 hpm2 HC
      go_wp2_with fail
      go_roundw
      case measure => simp [intOf]; omega
      case rel => exact ⟨j + 1, l2, by omega, by go_num, HPM2.out.cast (subs_snoc t HX.out).symm⟩
    · have hpm := HPM.out
      rw [List.take_of_length_le (by simp [nds]; omega)] at hpm
      have HPMA := hide hpm
      have HC := hide (parts_any t _ nd (Nat.le_refl _) (.inr HOK.out) HFL.out wr E b _ l' (HND.out.ext HXF.out (fun _ _ _ f => f)) (fun k hk => Nat.lt_of_lt_of_le (HE.out k hk) HXF.out.size) HPM.out.2.1 (fun k hk hd => (HPM.out.2.2.2.2 k hk).elim (fun e => absurd e (by simp [Value.ownBlock])) (fun e => by have := HE.out k hd; omega)) (by
        have h1 := form_few HOK.out t
        have h2 := HFL.out
        omega))
      clear hpm
      go_wp2_with fail
      refine HC.out.mono ?_
      rintro e w2 hp2
      obtain ⟨v2, l2, rfl, hpm2⟩ := pm_step HPMA.out hp2
      obtain ⟨va2, vc2, hv2, _⟩ := SR.shape hpm2.2.1
      subst hv2
      have HPM2 := hide hpm2
      clear hp2 hpm2 HC
      go_wp2_with fail
      go_ret
      have h1 := HPM2.out.2.2.1
      have h2 : l2.length = (addAll [] (subsAll t (nds X ++ [nd]))).length := by
        rw [subsAll_append]
        have h3 := congrArg List.length h1
        simpa [subsAll] using h3
      rw [← h2]
      exact ⟨rfl, HPM2.out.1.mono (fun _ _ e => absurd e (by simp [Value.ownBlock]))⟩

end Go.Proofs.YtegbdaffhpiacaaGreatDoor
