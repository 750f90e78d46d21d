/- The document's own answer: is a text in a list?; The document's own answer: the terms, or the atoms, of a tree, each once; The document's own answer: parts, of an atom. -/
import Derived.Test.YtegbdaffhpiacaaGreatDoorOwn23
import Derived.Test.YtegbdaffhpiacaaGreatDoorOwn20
/- The document's own answer: is a text in a list? -/
namespace Go.Proofs.YtegbdaffhpiacaaGreatDoor
open Go.RowKit Ar

/-- A list of texts. -/
def SR (w : World) (lv : Value) (l : List ByteArray) : Prop := w.ownsRow 0 9 1 lv l.length (l.map Value.string)

theorem SR.shape {w : World} {lv : Value} {l : List ByteArray} (h : SR w lv l) : ∃ a cap, lv = .slice a l.length cap ∧ (0 < l.length → ∃ g, a = some ⟨g, 0, none⟩ ∧ g < w.heap.size ∧ ∀ i s, l[i]? = some s → w.cell? ⟨g, i, none⟩ = some (.string s)) := by
  have hown : w.ownsRow 0 9 1 lv l.length (l.map Value.string) := h
  rcases hown.2 with ⟨e, e0⟩ | ⟨g, cap, cur, hv, hg, hh, hr⟩
  · exact ⟨none, 0, by rw [e, e0], fun h0 => by omega⟩
  · refine ⟨some ⟨g, 0, none⟩, cap, hv, fun _ => ⟨g, rfl, block_lt hh, ?_⟩⟩
    intro i s hs
    have hi := (List.getElem?_eq_some_iff.1 hs).1
    have h2 := hown
    rw [hv] at h2
    rw [h2.cellAt i (by omega), List.getElem?_map, hs]
    rfl

theorem SR.ext {S : Nat → Prop} {w w' : World} {lv : Value} {l : List ByteArray} (h : SR w lv l) (hx : Ext S w w') (hS : ∀ g, lv.ownBlock = some g → ¬ S g) : SR w' lv l := own_ext h hx hS

/-- Is a text in a list? -/
def amongB (l : List ByteArray) (s : ByteArray) : Bool := decide (s.toList ∈ l.map ByteArray.toList)
def amongTo (l : List ByteArray) (s : ByteArray) (k : Nat) : Prop := ¬ s.toList ∈ (l.take k).map ByteArray.toList

theorem among_hit {l : List ByteArray} {s x : ByteArray} {k : Nat} (hx : l[k]? = some x) (he : (x.toList == s.toList) = true) : amongB l s = true := by
  refine decide_eq_true (List.mem_map.2 ⟨x, List.mem_of_getElem? hx, beq_iff_eq.1 he⟩)

theorem among_next {l : List ByteArray} {s x : ByteArray} {k : Nat} (h : amongTo l s k) (hx : l[k]? = some x) (he : (x.toList == s.toList) = false) : amongTo l s (k + 1) := by
  unfold amongTo at *
  rw [List.take_add_one, hx, List.map_append]
  simp only [Option.toList_some, List.map_cons, List.map_nil, List.mem_append, List.mem_singleton, not_or]
  exact ⟨h, fun e => by rw [e] at he; simp at he⟩

set_option maxHeartbeats 400000 in
theorem among_any {w : World} {lv : Value} {l : List ByteArray} (h : SR w lv l) (s : ByteArray) (hl : l.length ≤ 100000000) :
    Calls Tryz.prog 164 #[lv, .string s] w fun e w' => e = .returned (.bool (amongB l s)) ∧ w' = w := by
  obtain ⟨ar, cap, rfl, hsh⟩ := h.shape
  have HSH := hide hsh
  clear h hsh
  go_enter Tryz.func164, Tryz.ntmps164
  go_wp2_with fail
  go_loop [5] (fun i => ∃ k : Nat, k ≤ l.length ∧ i = .int .i64 k ∧ amongTo l s k) (fun i => l.length - (intOf i).toNat)
  case atStart => exact ⟨0, Nat.zero_le _, rfl, by simp [amongTo]⟩
  case round =>
    obtain ⟨k, hk, rfl, ha⟩ := hrel
    have HA := hide ha
    clear ha
    by_cases hlt : k < l.length
    · obtain ⟨x, hx⟩ : ∃ x, l[k]? = some x := ⟨_, List.getElem?_eq_getElem hlt⟩
      obtain ⟨g, rfl, hgl, hc⟩ := HSH.out (by omega)
      have e1 := hc k x hx
      have HX := hide hx
      clear hx hc
      cases hq : (x.toList == s.toList) with
      | true =>
        go_wp2_with fail
        go_ret
        rw [among_hit HX.out hq]
        exact ⟨rfl, rfl⟩
      | false =>
        go_wp2_with fail
        exact ⟨⟨k + 1, by omega, by go_num, among_next HA.out HX.out hq⟩, by simp [intOf]; omega⟩
    · have hn : amongB l s = false := by
        have h1 := HA.out
        unfold amongTo at h1
        rw [List.take_of_length_le (by omega)] at h1
        exact decide_eq_false h1
      have HN := hide hn
      clear hn
      go_wp2_with fail
      go_ret
      rw [HN.out]
      exact ⟨rfl, rfl⟩

end Go.Proofs.YtegbdaffhpiacaaGreatDoor

/- The document's own answer: the terms, or the atoms, of a tree, each once. -/
namespace Go.Proofs.YtegbdaffhpiacaaGreatDoor
open Go.RowKit Ar

theorem infoStr : (Tryz.prog.info? 9).map (fun i => (i.zero, i.size, i.bytes)) = some (some (.string ByteArray.empty), 1, 16) := by kernel_rfl

/-- A list of texts to which the forms of xs were added, each once, since w, where it was lv, which holds l. -/
def PM (w : World) (lv : Value) (l : List ByteArray) (xs : List Nd) (v : Value) (l' : List ByteArray) (wr : World) : Prop :=
  Ext (fun k => lv.ownBlock = some k) w wr ∧ SR wr v l' ∧ l'.map ByteArray.toList = addAll (l.map ByteArray.toList) xs ∧ l'.length ≤ l.length + xs.length ∧ (∀ k, v.ownBlock = some k → lv.ownBlock = some k ∨ w.heap.size ≤ k)

def PartsPost (w : World) (lv : Value) (l : List ByteArray) (xs : List Nd) (e : Ending) (w' : World) : Prop := ∃ v l', e = .returned v ∧ PM w lv l xs v l' w'

theorem pm_refl {w : World} {lv : Value} {l : List ByteArray} (h : SR w lv l) : PM w lv l [] lv l w := ⟨Ext.refl _ _, h, rfl, by simp, fun _ hk => .inl hk⟩

theorem pm_there {w : World} {lv : Value} {l : List ByteArray} {nd : Nd} {f : ByteArray} (h : SR w lv l) (hf : f.toList = formOf nd) (hq : amongB l f = true) : PM w lv l [nd] lv l w := by
  refine ⟨Ext.refl _ _, h, ?_, by simp, fun _ hk => .inl hk⟩
  have hm := of_decide_eq_true hq
  rw [hf] at hm
  show _ = add1 _ _
  rw [add1, if_pos hm]

theorem pm_new {w w0 w1 : World} {lv v : Value} {l : List ByteArray} {nd : Nd} {f : ByteArray} (hf : f.toList = formOf nd) (hq : amongB l f = false) (hx : Ext (fun _ => False) w w0) (hg : w0.grownBy w1 lv.ownBlock)
    (hown : w1.ownsRow 0 9 1 v (l.length + 1) (l.map Value.string ++ [.string f])) (hat : v.ownBlock = lv.ownBlock ∨ v.ownBlock = some w0.heap.size) : PM w lv l [nd] v (l ++ [f]) w1 := by
  refine ⟨(hx.mono (fun _ _ f => f.elim)).grown hg (fun k hk _ => hk), ?_, ?_, by simp, ?_⟩
  · show World.ownsRow _ _ _ _ _ _ _
    simpa using hown
  · have hm := of_decide_eq_false hq
    rw [hf] at hm
    show _ = add1 _ _
    rw [add1, if_neg hm]
    simp [hf]
  · intro k hk
    rcases hat with e | e
    · exact .inl (e ▸ hk)
    · rw [e] at hk
      have := hx.size
      exact .inr (by simp at hk; omega)

theorem pm_step {w wr w2 : World} {lv v : Value} {l l' : List ByteArray} {xs ys : List Nd} {e : Ending} (h : PM w lv l xs v l' wr) (hp : PartsPost wr v l' ys e w2) : ∃ v2 l2, e = .returned v2 ∧ PM w lv l (xs ++ ys) v2 l2 w2 := by
  obtain ⟨h1, h2, h3, h4, h5⟩ := h
  obtain ⟨v2, l2, rfl, k1, k2, k3, k4, k5⟩ := hp
  refine ⟨v2, l2, rfl, h1.trans' k1 (fun i hi hv => (h5 i hv).elim id (fun e => by omega)), k2, ?_, ?_, ?_⟩
  · rw [k3, h3, addAll_append]
  · rw [List.length_append]; omega
  · intro k hk
    rcases k5 k hk with e | e
    · exact h5 k e
    · exact .inr (Nat.le_trans h1.size e)

theorem node_facts {k v : Int} {word : ByteArray} {ps : List Nd} (h : TmOk (.mk k word v ps) ∨ FmOk (.mk k word v ps)) :
    ((rtm k = true ∧ isIt true k = true ∧ isIt false k = false) ∨ (rtm k = false ∧ AtW (rwd k word v).toList ∧ isIt false k = true ∧ isIt true k = false) ∨ (rtm k = false ∧ ¬ AtW (rwd k word v).toList ∧ isIt false k = false ∧ isIt true k = false)) ∧ (∀ t, subsAll t (rps k ps) = subsAll t ps) ∧ (∀ p ∈ rps k ps, TmOk p ∨ FmOk p) := by
  rcases h with h | h
  · cases h with
    | num h1 h2 => exact ⟨.inl ⟨rfl, rfl, rfl⟩, fun _ => rfl, fun p hp => absurd hp (by simp [rps])⟩
    | app hw hl hp => exact ⟨.inl ⟨rfl, rfl, rfl⟩, fun _ => rfl, fun p hp' => .inl (hp p hp')⟩
  · cases h with
    | truth hw => exact ⟨.inr (.inr ⟨rfl, hw, rfl, rfl⟩), fun _ => rfl, fun p hp => absurd hp (by simp [rps])⟩
    | con hw hp => exact ⟨.inr (.inr ⟨rfl, hw, rfl, rfl⟩), fun _ => rfl, fun p hp' => .inr (hp p hp')⟩
    | two hw ha hb =>
      refine ⟨.inr (.inl ⟨rfl, ?_, rfl, rfl⟩), fun _ => rfl, fun p hp => ?_⟩
      · rcases hw with h | h | h
        · exact .inl h
        · exact .inr (.inl h)
        · exact .inr (.inr (.inl h))
      · simp [rps] at hp
        rcases hp with rfl | rfl
        · exact .inl ha
        · exact .inl hb
    | le hw ha hb h1 h2 =>
      refine ⟨.inr (.inl ⟨rfl, .inr (.inr (.inr hw)), rfl, rfl⟩), fun t => ?_, fun p hp => ?_⟩
      · cases t <;> simp [rps, subsAll, subs, isIt]
      · simp [rps] at hp
        rcases hp with rfl | rfl
        · exact .inl ha
        · exact .inl hb

theorem size_part {k v : Int} {word : ByteArray} {ps : List Nd} {p : Nd} (h : p ∈ rps k ps) : SizeOf.sizeOf p < SizeOf.sizeOf (Nd.mk k word v ps) := by
  have hm : p ∈ ps := by
    unfold rps at h
    split at h
    · exact List.mem_of_mem_take h
    · exact h
  have := List.sizeOf_lt_of_mem hm
  simp
  omega

theorem subs_it {t : Bool} {k v : Int} {word : ByteArray} {ps : List Nd} (h : isIt t k = true) : subs t (.mk k word v ps) = [.mk k word v ps] ++ subsAll t ps := by rw [subs, if_pos h]
theorem subs_no {t : Bool} {k v : Int} {word : ByteArray} {ps : List Nd} (h : isIt t k = false) : subs t (.mk k word v ps) = [] ++ subsAll t ps := by rw [subs, if_neg (by rw [h]; decide)]

/-- What the children of a node are, for the loop over them. -/
theorem kid_at {w : World} {D : Nat → Prop} {pv : Value} {kids : List Nat} {qs : List Nd} (how : w.ownsRow 0 172 1 pv qs.length (kids.map kp)) (hk : ∀ (i c : Nat) (p : Nd), kids[i]? = some c → qs[i]? = some p → RN w D c p) (hD : ∀ g, pv.ownBlock = some g → D g) :
    ∃ a cap, pv = .slice a qs.length cap ∧ ∀ i p, qs[i]? = some p → ∃ g c, a = some ⟨g, 0, none⟩ ∧ g < w.heap.size ∧ D g ∧ w.cell? ⟨g, i, none⟩ = some (.pointer (some ⟨c, 0, none⟩)) ∧ RN w D c p := by
  rcases how.2 with ⟨e, e0⟩ | ⟨g, cap, cur, hv, hg, hh, hr⟩
  · refine ⟨none, 0, by rw [e, e0], fun i p hp => ?_⟩
    have := (List.getElem?_eq_some_iff.1 hp).1
    omega
  · refine ⟨some ⟨g, 0, none⟩, cap, hv, fun i p hp => ?_⟩
    have hi := (List.getElem?_eq_some_iff.1 hp).1
    have hkl : kids.length = qs.length := by have := how.1; simpa using this
    obtain ⟨c, hc⟩ : ∃ c, kids[i]? = some c := ⟨_, List.getElem?_eq_getElem (by omega)⟩
    refine ⟨g, c, rfl, block_lt hh, hD g (by rw [hv]; rfl), ?_, hk i c p hc hp⟩
    have h2 := how
    rw [hv] at h2
    rw [h2.cellAt i (by omega), List.getElem?_map, hc]
    rfl

theorem subs_snoc (t : Bool) {qs : List Nd} {j : Nat} {p : Nd} (h : qs[j]? = some p) : subsAll t (qs.take (j + 1)) = subsAll t (qs.take j) ++ subs t p := by
  rw [List.take_add_one, h, subsAll_append]
  simp [subsAll]

theorem subs_take (t : Bool) {qs : List Nd} {j : Nat} {p : Nd} (h : qs[j]? = some p) : (subsAll t (qs.take j)).length + (subs t p).length ≤ (subsAll t qs).length := by
  have h1 := subs_snoc t h
  have h2 : subsAll t qs = subsAll t (qs.take (j + 1)) ++ subsAll t (qs.drop (j + 1)) := by rw [← subsAll_append, List.take_append_drop]
  rw [h2, h1]
  simp only [List.length_append]
  omega

set_option maxRecDepth 100000 in
set_option maxHeartbeats 1000000 in
theorem parts_term_t {w : World} {D : Nat → Prop} {b : Nat} {lv : Value} {l : List ByteArray} {k v : Int} {word wd fm : ByteArray} {ps : List Nd} {pv by_ : Value} (hnb : w.heap[b]? = some (.cells #[.string wd, pv, by_, .bool (rtm k), .string fm] 235)) (hdb : D b) (hf : fm.toList = formOf (.mk k word v ps))
    (hkid : ∃ a cap, pv = .slice a (rps k ps).length cap ∧ ∀ i p, (rps k ps)[i]? = some p → ∃ g c, a = some ⟨g, 0, none⟩ ∧ g < w.heap.size ∧ D g ∧ w.cell? ⟨g, i, none⟩ = some (.pointer (some ⟨c, 0, none⟩)) ∧ RN w D c p)
    (hfa : (∀ t, subsAll t (rps k ps) = subsAll t ps) ∧ True) (hdl : ∀ q, D q → q < w.heap.size) (hsr : SR w lv l) (hld : ∀ g, lv.ownBlock = some g → ¬ D g) (hlen : l.length + (subs true (.mk k word v ps)).length ≤ 100000000)
    (hih : ∀ p ∈ rps k ps, ∀ (w : World) (D : Nat → Prop) (b : Nat) (lv : Value) (l : List ByteArray), RN w D b p → (∀ q, D q → q < w.heap.size) → SR w lv l → (∀ g, lv.ownBlock = some g → ¬ D g) → l.length + (subs true p).length ≤ 100000000 → Calls Tryz.prog 163 #[.pointer (some ⟨b, 0, none⟩), .bool true, lv] w (PartsPost w lv l (subs true p)))
    (hlk : (rps k ps).length ≤ 100000000) (hr : rtm k = true) (hit : isIt true k = true) :
    Calls Tryz.prog 163 #[.pointer (some ⟨b, 0, none⟩), .bool true, lv] w (PartsPost w lv l (subs true (.mk k word v ps))) := by
  obtain ⟨ka, kc, rfl, hkid⟩ := hkid
  obtain ⟨la, lc, rfl, _⟩ := SR.shape hsr
  have HNB := hide hnb
  have HDB := hide hdb
  have HF := hide hf
  have HKID := hide hkid
  have HFA := hide hfa
  have HDL := hide hdl
  have HSR := hide hsr
  have HLD := hide hld
  have HLEN := hide hlen
  have HIH := hide hih
  have c0 := cell_of_block hnb 0
  have c1 := cell_of_block hnb 1
  have c3 := cell_of_block hnb 3
  have c4 := cell_of_block hnb 4
  obtain ⟨i0, hi, hz0, hz1, hz2⟩ := info_parts infoStr
  have HI : Hid (Tryz.prog.info? 9 = some i0 ∧ i0.zero = some (.string ByteArray.empty) ∧ i0.size = 1 ∧ i0.bytes = 16) := ⟨hi, hz0, hz1, hz2⟩
  clear hnb hdb hf hkid hfa hdl hsr hld hlen hih hi hz0 hz1 hz2
  rw [hr] at HNB c3
  have HIT := hide hit
  clear hit
  go_enter Tryz.func163, Tryz.ntmps163
  go_wp2_with fail
  refine (among_any HSR.out fm (by have := HLEN.out; omega)).mono ?_
  rintro e w' ⟨rfl, hw⟩
  rw [hw]
  clear hw w'
  cases hq : amongB l fm with
  | true =>
    have HPM := hide (pm_there HSR.out HF.out hq)
    go_wp2_with fail
    go_loopw [2, 9] (fun vv i wr => ∃ (j : Nat) (l' : List ByteArray), j ≤ (rps k ps).length ∧ i = .int .i64 j ∧ PM w (.slice la l.length lc) l ([.mk k word v ps] ++ subsAll true ((rps k ps).take j)) vv l' wr) (fun _ i _ => (rps k ps).length - (intOf i).toNat)
    case atStart => exact ⟨0, _, Nat.zero_le _, rfl, by simpa [subsAll] using HPM.out⟩
    case round =>
      clear HPM
      obtain ⟨j, l', hj, rfl, hpm⟩ := hrel
      have HPM := hide hpm
      obtain ⟨va, vc, hvv, _⟩ := SR.shape hpm.2.1
      subst hvv
      have kb := (hpm.1.block _ (block_lt HNB.out) (fun e => HLD.out _ e HDB.out)).trans HNB.out
      have d1 := cell_of_block kb 1
      clear hpm kb
      by_cases hlt : j < (rps k ps).length
      · obtain ⟨p, hp⟩ : ∃ p, (rps k ps)[j]? = some p := ⟨_, List.getElem?_eq_getElem hlt⟩
        obtain ⟨g, cb, rfl, hgl, hDg, hcell, hrn⟩ := HKID.out j p hp
        rw [← HPM.out.1.cell (p := ⟨g, j, none⟩) hgl (fun e => HLD.out _ e hDg)] at hcell
        have HC := hide (HIH.out p (List.mem_of_getElem? hp) wr D cb _ l' (hrn.ext HPM.out.1 (fun q _ hd e => HLD.out q e hd)) (fun q hq => Nat.lt_of_lt_of_le (HDL.out q hq) HPM.out.1.size) HPM.out.2.1 (fun q hq hd => (HPM.out.2.2.2.2 q hq).elim (fun e => HLD.out q e hd) (fun e => by have := HDL.out q hd; omega)) (by
          have h1 := HPM.out.2.2.2.1
          have h2 := HLEN.out
          have h3 := subs_take true hp
          rw [subs_it HIT.out, List.length_append, ← HFA.out.1 true] at h2
          rw [List.length_append] at h1
          omega))
        have HP := hide hp
        clear hp hrn hgl hDg
        go_wp2_with fail
        refine HC.out.mono ?_
        rintro e w2 hp2
        obtain ⟨v2, l2, rfl, hpm2⟩ := pm_step HPM.out hp2
        have HPM2 := hide hpm2
        clear hp2 hpm2 HC
        go_wp2_with fail
        go_roundw
        case measure => simp [intOf]; omega
        case rel => exact ⟨j + 1, l2, by omega, by go_num, by rw [subs_snoc true HP.out, ← List.append_assoc]; exact HPM2.out⟩
      · go_wp2_with fail
        go_ret
        refine ⟨_, l', rfl, ?_⟩
        have h1 := HPM.out
        rw [List.take_of_length_le (by omega), HFA.out.1 true] at h1
        rw [subs_it HIT.out]
        exact h1
  | false =>
    have HQ := hide hq
    obtain ⟨hi, hz0, hz1, hz2⟩ := HI.out
    go_wp2_with (at_builtin; refine wpList_append_own_at _ rfl _ _ 238 rfl 0 9 i0 (.string ByteArray.empty) 1 16 Tryz.underlying238 hi hz0 hz1 hz2 rfl (by decide) _ _ _ rfl (World.ownsRow.alloc HSR.out _) ⟨w.heap.size, 0, none⟩ 1 1 [.string fm] rfl rfl ?c1 ?c2 ?c3 ?c4 ?c5 ?_)
    case c1 =>
      intro q u2 hq2
      match q, hq2 with
      | 0, hq2 => simp at hq2; subst hq2; simp [Addr.add]
    case c2 => intro u2 hu2; simp at hu2; subst hu2; rfl
    case c3 => unfold maxLen; have := HLEN.out; omega
    case c4 => have := HLEN.out; omega
    case c5 => omega
    intro v' wa hown' hgrow _ hat
    have HPM := hide (pm_new HF.out HQ.out ((Ext.refl _ w).alloc _) hgrow hown' (by simpa using hat))
    clear hown' hgrow hat hi hz0 hz1 hz2
    go_wp2_with fail
    go_loopw [2, 9] (fun vv i wr => ∃ (j : Nat) (l' : List ByteArray), j ≤ (rps k ps).length ∧ i = .int .i64 j ∧ PM w (.slice la l.length lc) l ([.mk k word v ps] ++ subsAll true ((rps k ps).take j)) vv l' wr) (fun _ i _ => (rps k ps).length - (intOf i).toNat)
    case atStart => exact ⟨0, _, Nat.zero_le _, rfl, by simpa [subsAll] using HPM.out⟩
    case round =>
      clear HPM
      obtain ⟨j, l', hj, rfl, hpm⟩ := hrel
      have HPM := hide hpm
      obtain ⟨va, vc, hvv, _⟩ := SR.shape hpm.2.1
      subst hvv
      have kb := (hpm.1.block _ (block_lt HNB.out) (fun e => HLD.out _ e HDB.out)).trans HNB.out
      have d1 := cell_of_block kb 1
      clear hpm kb
      by_cases hlt : j < (rps k ps).length
      · obtain ⟨p, hp⟩ : ∃ p, (rps k ps)[j]? = some p := ⟨_, List.getElem?_eq_getElem hlt⟩
        obtain ⟨g, cb, rfl, hgl, hDg, hcell, hrn⟩ := HKID.out j p hp
        rw [← HPM.out.1.cell (p := ⟨g, j, none⟩) hgl (fun e => HLD.out _ e hDg)] at hcell
        have HC := hide (HIH.out p (List.mem_of_getElem? hp) wr D cb _ l' (hrn.ext HPM.out.1 (fun q _ hd e => HLD.out q e hd)) (fun q hq => Nat.lt_of_lt_of_le (HDL.out q hq) HPM.out.1.size) HPM.out.2.1 (fun q hq hd => (HPM.out.2.2.2.2 q hq).elim (fun e => HLD.out q e hd) (fun e => by have := HDL.out q hd; omega)) (by
          have h1 := HPM.out.2.2.2.1
          have h2 := HLEN.out
          have h3 := subs_take true hp
          rw [subs_it HIT.out, List.length_append, ← HFA.out.1 true] at h2
          rw [List.length_append] at h1
          omega))
        have HP := hide hp
        clear hp hrn hgl hDg
        go_wp2_with fail
        refine HC.out.mono ?_
        rintro e w2 hp2
        obtain ⟨v2, l2, rfl, hpm2⟩ := pm_step HPM.out hp2
        have HPM2 := hide hpm2
        clear hp2 hpm2 HC
        go_wp2_with fail
        go_roundw
        case measure => simp [intOf]; omega
        case rel => exact ⟨j + 1, l2, by omega, by go_num, by rw [subs_snoc true HP.out, ← List.append_assoc]; exact HPM2.out⟩
      · go_wp2_with fail
        go_ret
        refine ⟨_, l', rfl, ?_⟩
        have h1 := HPM.out
        rw [List.take_of_length_le (by omega), HFA.out.1 true] at h1
        rw [subs_it HIT.out]
        exact h1

set_option maxRecDepth 100000 in
set_option maxHeartbeats 1000000 in
theorem parts_term_a {w : World} {D : Nat → Prop} {b : Nat} {lv : Value} {l : List ByteArray} {k v : Int} {word wd fm : ByteArray} {ps : List Nd} {pv by_ : Value} (hnb : w.heap[b]? = some (.cells #[.string wd, pv, by_, .bool (rtm k), .string fm] 235)) (hdb : D b) (hf : fm.toList = formOf (.mk k word v ps))
    (hkid : ∃ a cap, pv = .slice a (rps k ps).length cap ∧ ∀ i p, (rps k ps)[i]? = some p → ∃ g c, a = some ⟨g, 0, none⟩ ∧ g < w.heap.size ∧ D g ∧ w.cell? ⟨g, i, none⟩ = some (.pointer (some ⟨c, 0, none⟩)) ∧ RN w D c p)
    (hfa : (∀ t, subsAll t (rps k ps) = subsAll t ps) ∧ True) (hdl : ∀ q, D q → q < w.heap.size) (hsr : SR w lv l) (hld : ∀ g, lv.ownBlock = some g → ¬ D g) (hlen : l.length + (subs false (.mk k word v ps)).length ≤ 100000000)
    (hih : ∀ p ∈ rps k ps, ∀ (w : World) (D : Nat → Prop) (b : Nat) (lv : Value) (l : List ByteArray), RN w D b p → (∀ q, D q → q < w.heap.size) → SR w lv l → (∀ g, lv.ownBlock = some g → ¬ D g) → l.length + (subs false p).length ≤ 100000000 → Calls Tryz.prog 163 #[.pointer (some ⟨b, 0, none⟩), .bool false, lv] w (PartsPost w lv l (subs false p)))
    (hlk : (rps k ps).length ≤ 100000000) (hr : rtm k = true) (hit : isIt false k = false) :
    Calls Tryz.prog 163 #[.pointer (some ⟨b, 0, none⟩), .bool false, lv] w (PartsPost w lv l (subs false (.mk k word v ps))) := by
  obtain ⟨ka, kc, rfl, hkid⟩ := hkid
  obtain ⟨la, lc, rfl, _⟩ := SR.shape hsr
  have HNB := hide hnb
  have HDB := hide hdb
  have HF := hide hf
  have HKID := hide hkid
  have HFA := hide hfa
  have HDL := hide hdl
  have HSR := hide hsr
  have HLD := hide hld
  have HLEN := hide hlen
  have HIH := hide hih
  have c0 := cell_of_block hnb 0
  have c1 := cell_of_block hnb 1
  have c3 := cell_of_block hnb 3
  have c4 := cell_of_block hnb 4
  obtain ⟨i0, hi, hz0, hz1, hz2⟩ := info_parts infoStr
  have HI : Hid (Tryz.prog.info? 9 = some i0 ∧ i0.zero = some (.string ByteArray.empty) ∧ i0.size = 1 ∧ i0.bytes = 16) := ⟨hi, hz0, hz1, hz2⟩
  clear hnb hdb hf hkid hfa hdl hsr hld hlen hih hi hz0 hz1 hz2
  rw [hr] at HNB c3
  have HPM := hide (pm_refl HSR.out)
  have HIT := hide hit
  clear hit
  go_enter Tryz.func163, Tryz.ntmps163
  go_wp2_with fail
  go_loopw [2, 9] (fun vv i wr => ∃ (j : Nat) (l' : List ByteArray), j ≤ (rps k ps).length ∧ i = .int .i64 j ∧ PM w (.slice la l.length lc) l ([] ++ subsAll false ((rps k ps).take j)) vv l' wr) (fun _ i _ => (rps k ps).length - (intOf i).toNat)
  case atStart => exact ⟨0, _, Nat.zero_le _, rfl, by simpa [subsAll] using HPM.out⟩
  case round =>
    clear HPM
    obtain ⟨j, l', hj, rfl, hpm⟩ := hrel
    have HPM := hide hpm
    obtain ⟨va, vc, hvv, _⟩ := SR.shape hpm.2.1
    subst hvv
    have kb := (hpm.1.block _ (block_lt HNB.out) (fun e => HLD.out _ e HDB.out)).trans HNB.out
    have d1 := cell_of_block kb 1
    clear hpm kb
    by_cases hlt : j < (rps k ps).length
    · obtain ⟨p, hp⟩ : ∃ p, (rps k ps)[j]? = some p := ⟨_, List.getElem?_eq_getElem hlt⟩
      obtain ⟨g, cb, rfl, hgl, hDg, hcell, hrn⟩ := HKID.out j p hp
      rw [← HPM.out.1.cell (p := ⟨g, j, none⟩) hgl (fun e => HLD.out _ e hDg)] at hcell
      have HC := hide (HIH.out p (List.mem_of_getElem? hp) wr D cb _ l' (hrn.ext HPM.out.1 (fun q _ hd e => HLD.out q e hd)) (fun q hq => Nat.lt_of_lt_of_le (HDL.out q hq) HPM.out.1.size) HPM.out.2.1 (fun q hq hd => (HPM.out.2.2.2.2 q hq).elim (fun e => HLD.out q e hd) (fun e => by have := HDL.out q hd; omega)) (by
        have h1 := HPM.out.2.2.2.1
        have h2 := HLEN.out
        have h3 := subs_take false hp
        rw [subs_no HIT.out, List.length_append, ← HFA.out.1 false] at h2
        rw [List.length_append] at h1
        omega))
      have HP := hide hp
      clear hp hrn hgl hDg
      go_wp2_with fail
      refine HC.out.mono ?_
      rintro e w2 hp2
      obtain ⟨v2, l2, rfl, hpm2⟩ := pm_step HPM.out hp2
      have HPM2 := hide hpm2
      clear hp2 hpm2 HC
      go_wp2_with fail
      go_roundw
      case measure => simp [intOf]; omega
      case rel => exact ⟨j + 1, l2, by omega, by go_num, by rw [subs_snoc false HP.out, ← List.append_assoc]; exact HPM2.out⟩
    · go_wp2_with fail
      go_ret
      refine ⟨_, l', rfl, ?_⟩
      have h1 := HPM.out
      rw [List.take_of_length_le (by omega), HFA.out.1 false] at h1
      rw [subs_no HIT.out]
      exact h1

set_option maxRecDepth 100000 in
set_option maxHeartbeats 1000000 in
theorem parts_other_t {w : World} {D : Nat → Prop} {b : Nat} {lv : Value} {l : List ByteArray} {k v : Int} {word wd fm : ByteArray} {ps : List Nd} {pv by_ : Value} (hnb : w.heap[b]? = some (.cells #[.string wd, pv, by_, .bool (rtm k), .string fm] 235)) (hdb : D b) (hf : fm.toList = formOf (.mk k word v ps))
    (hkid : ∃ a cap, pv = .slice a (rps k ps).length cap ∧ ∀ i p, (rps k ps)[i]? = some p → ∃ g c, a = some ⟨g, 0, none⟩ ∧ g < w.heap.size ∧ D g ∧ w.cell? ⟨g, i, none⟩ = some (.pointer (some ⟨c, 0, none⟩)) ∧ RN w D c p)
    (hfa : (∀ t, subsAll t (rps k ps) = subsAll t ps) ∧ True) (hdl : ∀ q, D q → q < w.heap.size) (hsr : SR w lv l) (hld : ∀ g, lv.ownBlock = some g → ¬ D g) (hlen : l.length + (subs true (.mk k word v ps)).length ≤ 100000000)
    (hih : ∀ p ∈ rps k ps, ∀ (w : World) (D : Nat → Prop) (b : Nat) (lv : Value) (l : List ByteArray), RN w D b p → (∀ q, D q → q < w.heap.size) → SR w lv l → (∀ g, lv.ownBlock = some g → ¬ D g) → l.length + (subs true p).length ≤ 100000000 → Calls Tryz.prog 163 #[.pointer (some ⟨b, 0, none⟩), .bool true, lv] w (PartsPost w lv l (subs true p)))
    (hlk : (rps k ps).length ≤ 100000000) (hr : rtm k = false) (hit : isIt true k = false) (hw : ¬ AtW wd.toList) :
    Calls Tryz.prog 163 #[.pointer (some ⟨b, 0, none⟩), .bool true, lv] w (PartsPost w lv l (subs true (.mk k word v ps))) := by
  obtain ⟨ka, kc, rfl, hkid⟩ := hkid
  obtain ⟨la, lc, rfl, _⟩ := SR.shape hsr
  have HNB := hide hnb
  have HDB := hide hdb
  have HF := hide hf
  have HKID := hide hkid
  have HFA := hide hfa
  have HDL := hide hdl
  have HSR := hide hsr
  have HLD := hide hld
  have HLEN := hide hlen
  have HIH := hide hih
  have c0 := cell_of_block hnb 0
  have c1 := cell_of_block hnb 1
  have c3 := cell_of_block hnb 3
  have c4 := cell_of_block hnb 4
  obtain ⟨i0, hi, hz0, hz1, hz2⟩ := info_parts infoStr
  have HI : Hid (Tryz.prog.info? 9 = some i0 ∧ i0.zero = some (.string ByteArray.empty) ∧ i0.size = 1 ∧ i0.bytes = 16) := ⟨hi, hz0, hz1, hz2⟩
  clear hnb hdb hf hkid hfa hdl hsr hld hlen hih hi hz0 hz1 hz2
  rw [hr] at HNB c3
  have a0 : (wd.toList == [61]) = false := beq_eq_false_iff_ne.2 (fun e => hw (Or.inl e))
  have a1 : (wd.toList == [60]) = false := beq_eq_false_iff_ne.2 (fun e => hw (Or.inr (Or.inl e)))
  have a2 : (wd.toList == [60, 61]) = false := beq_eq_false_iff_ne.2 (fun e => hw (Or.inr (Or.inr (Or.inl e))))
  have a3 : (wd.toList == [108, 101]) = false := beq_eq_false_iff_ne.2 (fun e => hw (Or.inr (Or.inr (Or.inr e))))
  clear hw
  have HPM := hide (pm_refl HSR.out)
  have HIT := hide hit
  clear hit
  go_enter Tryz.func163, Tryz.ntmps163
  go_wp2_with fail
  go_loopw [2, 9] (fun vv i wr => ∃ (j : Nat) (l' : List ByteArray), j ≤ (rps k ps).length ∧ i = .int .i64 j ∧ PM w (.slice la l.length lc) l ([] ++ subsAll true ((rps k ps).take j)) vv l' wr) (fun _ i _ => (rps k ps).length - (intOf i).toNat)
  case atStart => exact ⟨0, _, Nat.zero_le _, rfl, by simpa [subsAll] using HPM.out⟩
  case round =>
    clear HPM
    obtain ⟨j, l', hj, rfl, hpm⟩ := hrel
    have HPM := hide hpm
    obtain ⟨va, vc, hvv, _⟩ := SR.shape hpm.2.1
    subst hvv
    have kb := (hpm.1.block _ (block_lt HNB.out) (fun e => HLD.out _ e HDB.out)).trans HNB.out
    have d1 := cell_of_block kb 1
    clear hpm kb
    by_cases hlt : j < (rps k ps).length
    · obtain ⟨p, hp⟩ : ∃ p, (rps k ps)[j]? = some p := ⟨_, List.getElem?_eq_getElem hlt⟩
      obtain ⟨g, cb, rfl, hgl, hDg, hcell, hrn⟩ := HKID.out j p hp
      rw [← HPM.out.1.cell (p := ⟨g, j, none⟩) hgl (fun e => HLD.out _ e hDg)] at hcell
      have HC := hide (HIH.out p (List.mem_of_getElem? hp) wr D cb _ l' (hrn.ext HPM.out.1 (fun q _ hd e => HLD.out q e hd)) (fun q hq => Nat.lt_of_lt_of_le (HDL.out q hq) HPM.out.1.size) HPM.out.2.1 (fun q hq hd => (HPM.out.2.2.2.2 q hq).elim (fun e => HLD.out q e hd) (fun e => by have := HDL.out q hd; omega)) (by
        have h1 := HPM.out.2.2.2.1
        have h2 := HLEN.out
        have h3 := subs_take true hp
        rw [subs_no HIT.out, List.length_append, ← HFA.out.1 true] at h2
        rw [List.length_append] at h1
        omega))
      have HP := hide hp
      clear hp hrn hgl hDg
      go_wp2_with fail
      refine HC.out.mono ?_
      rintro e w2 hp2
      obtain ⟨v2, l2, rfl, hpm2⟩ := pm_step HPM.out hp2
      have HPM2 := hide hpm2
      clear hp2 hpm2 HC
      go_wp2_with fail
      go_roundw
      case measure => simp [intOf]; omega
      case rel => exact ⟨j + 1, l2, by omega, by go_num, by rw [subs_snoc true HP.out, ← List.append_assoc]; exact HPM2.out⟩
    · go_wp2_with fail
      go_ret
      refine ⟨_, l', rfl, ?_⟩
      have h1 := HPM.out
      rw [List.take_of_length_le (by omega), HFA.out.1 true] at h1
      rw [subs_no HIT.out]
      exact h1

set_option maxRecDepth 100000 in
set_option maxHeartbeats 1000000 in
theorem parts_other_a {w : World} {D : Nat → Prop} {b : Nat} {lv : Value} {l : List ByteArray} {k v : Int} {word wd fm : ByteArray} {ps : List Nd} {pv by_ : Value} (hnb : w.heap[b]? = some (.cells #[.string wd, pv, by_, .bool (rtm k), .string fm] 235)) (hdb : D b) (hf : fm.toList = formOf (.mk k word v ps))
    (hkid : ∃ a cap, pv = .slice a (rps k ps).length cap ∧ ∀ i p, (rps k ps)[i]? = some p → ∃ g c, a = some ⟨g, 0, none⟩ ∧ g < w.heap.size ∧ D g ∧ w.cell? ⟨g, i, none⟩ = some (.pointer (some ⟨c, 0, none⟩)) ∧ RN w D c p)
    (hfa : (∀ t, subsAll t (rps k ps) = subsAll t ps) ∧ True) (hdl : ∀ q, D q → q < w.heap.size) (hsr : SR w lv l) (hld : ∀ g, lv.ownBlock = some g → ¬ D g) (hlen : l.length + (subs false (.mk k word v ps)).length ≤ 100000000)
    (hih : ∀ p ∈ rps k ps, ∀ (w : World) (D : Nat → Prop) (b : Nat) (lv : Value) (l : List ByteArray), RN w D b p → (∀ q, D q → q < w.heap.size) → SR w lv l → (∀ g, lv.ownBlock = some g → ¬ D g) → l.length + (subs false p).length ≤ 100000000 → Calls Tryz.prog 163 #[.pointer (some ⟨b, 0, none⟩), .bool false, lv] w (PartsPost w lv l (subs false p)))
    (hlk : (rps k ps).length ≤ 100000000) (hr : rtm k = false) (hit : isIt false k = false) (hw : ¬ AtW wd.toList) :
    Calls Tryz.prog 163 #[.pointer (some ⟨b, 0, none⟩), .bool false, lv] w (PartsPost w lv l (subs false (.mk k word v ps))) := by
  obtain ⟨ka, kc, rfl, hkid⟩ := hkid
  obtain ⟨la, lc, rfl, _⟩ := SR.shape hsr
  have HNB := hide hnb
  have HDB := hide hdb
  have HF := hide hf
  have HKID := hide hkid
  have HFA := hide hfa
  have HDL := hide hdl
  have HSR := hide hsr
  have HLD := hide hld
  have HLEN := hide hlen
  have HIH := hide hih
  have c0 := cell_of_block hnb 0
  have c1 := cell_of_block hnb 1
  have c3 := cell_of_block hnb 3
  have c4 := cell_of_block hnb 4
  obtain ⟨i0, hi, hz0, hz1, hz2⟩ := info_parts infoStr
  have HI : Hid (Tryz.prog.info? 9 = some i0 ∧ i0.zero = some (.string ByteArray.empty) ∧ i0.size = 1 ∧ i0.bytes = 16) := ⟨hi, hz0, hz1, hz2⟩
  clear hnb hdb hf hkid hfa hdl hsr hld hlen hih hi hz0 hz1 hz2
  rw [hr] at HNB c3
  have a0 : (wd.toList == [61]) = false := beq_eq_false_iff_ne.2 (fun e => hw (Or.inl e))
  have a1 : (wd.toList == [60]) = false := beq_eq_false_iff_ne.2 (fun e => hw (Or.inr (Or.inl e)))
  have a2 : (wd.toList == [60, 61]) = false := beq_eq_false_iff_ne.2 (fun e => hw (Or.inr (Or.inr (Or.inl e))))
  have a3 : (wd.toList == [108, 101]) = false := beq_eq_false_iff_ne.2 (fun e => hw (Or.inr (Or.inr (Or.inr e))))
  clear hw
  have HPM := hide (pm_refl HSR.out)
  have HIT := hide hit
  clear hit
  go_enter Tryz.func163, Tryz.ntmps163
  go_wp2_with fail
  go_loopw [2, 9] (fun vv i wr => ∃ (j : Nat) (l' : List ByteArray), j ≤ (rps k ps).length ∧ i = .int .i64 j ∧ PM w (.slice la l.length lc) l ([] ++ subsAll false ((rps k ps).take j)) vv l' wr) (fun _ i _ => (rps k ps).length - (intOf i).toNat)
  case atStart => exact ⟨0, _, Nat.zero_le _, rfl, by simpa [subsAll] using HPM.out⟩
  case round =>
    clear HPM
    obtain ⟨j, l', hj, rfl, hpm⟩ := hrel
    have HPM := hide hpm
    obtain ⟨va, vc, hvv, _⟩ := SR.shape hpm.2.1
    subst hvv
    have kb := (hpm.1.block _ (block_lt HNB.out) (fun e => HLD.out _ e HDB.out)).trans HNB.out
    have d1 := cell_of_block kb 1
    clear hpm kb
    by_cases hlt : j < (rps k ps).length
    · obtain ⟨p, hp⟩ : ∃ p, (rps k ps)[j]? = some p := ⟨_, List.getElem?_eq_getElem hlt⟩
      obtain ⟨g, cb, rfl, hgl, hDg, hcell, hrn⟩ := HKID.out j p hp
      rw [← HPM.out.1.cell (p := ⟨g, j, none⟩) hgl (fun e => HLD.out _ e hDg)] at hcell
      have HC := hide (HIH.out p (List.mem_of_getElem? hp) wr D cb _ l' (hrn.ext HPM.out.1 (fun q _ hd e => HLD.out q e hd)) (fun q hq => Nat.lt_of_lt_of_le (HDL.out q hq) HPM.out.1.size) HPM.out.2.1 (fun q hq hd => (HPM.out.2.2.2.2 q hq).elim (fun e => HLD.out q e hd) (fun e => by have := HDL.out q hd; omega)) (by
        have h1 := HPM.out.2.2.2.1
        have h2 := HLEN.out
        have h3 := subs_take false hp
        rw [subs_no HIT.out, List.length_append, ← HFA.out.1 false] at h2
        rw [List.length_append] at h1
        omega))
      have HP := hide hp
      clear hp hrn hgl hDg
      go_wp2_with fail
      refine HC.out.mono ?_
      rintro e w2 hp2
      obtain ⟨v2, l2, rfl, hpm2⟩ := pm_step HPM.out hp2
      have HPM2 := hide hpm2
      clear hp2 hpm2 HC
      go_wp2_with fail
      go_roundw
      case measure => simp [intOf]; omega
      case rel => exact ⟨j + 1, l2, by omega, by go_num, by rw [subs_snoc false HP.out, ← List.append_assoc]; exact HPM2.out⟩
    · go_wp2_with fail
      go_ret
      refine ⟨_, l', rfl, ?_⟩
      have h1 := HPM.out
      rw [List.take_of_length_le (by omega), HFA.out.1 false] at h1
      rw [subs_no HIT.out]
      exact h1

end Go.Proofs.YtegbdaffhpiacaaGreatDoor

/- The document's own answer: parts, of an atom. -/
namespace Go.Proofs.YtegbdaffhpiacaaGreatDoor
open Go.RowKit Ar

set_option maxRecDepth 100000 in
set_option maxHeartbeats 1000000 in
theorem parts_0_t {w : World} {D : Nat → Prop} {b : Nat} {lv : Value} {l : List ByteArray} {k v : Int} {word wd fm : ByteArray} {ps : List Nd} {pv by_ : Value} (hnb : w.heap[b]? = some (.cells #[.string wd, pv, by_, .bool (rtm k), .string fm] 235)) (hdb : D b) (hf : fm.toList = formOf (.mk k word v ps))
    (hkid : ∃ a cap, pv = .slice a (rps k ps).length cap ∧ ∀ i p, (rps k ps)[i]? = some p → ∃ g c, a = some ⟨g, 0, none⟩ ∧ g < w.heap.size ∧ D g ∧ w.cell? ⟨g, i, none⟩ = some (.pointer (some ⟨c, 0, none⟩)) ∧ RN w D c p)
    (hfa : (∀ t, subsAll t (rps k ps) = subsAll t ps) ∧ True) (hdl : ∀ q, D q → q < w.heap.size) (hsr : SR w lv l) (hld : ∀ g, lv.ownBlock = some g → ¬ D g) (hlen : l.length + (subs true (.mk k word v ps)).length ≤ 100000000)
    (hih : ∀ p ∈ rps k ps, ∀ (w : World) (D : Nat → Prop) (b : Nat) (lv : Value) (l : List ByteArray), RN w D b p → (∀ q, D q → q < w.heap.size) → SR w lv l → (∀ g, lv.ownBlock = some g → ¬ D g) → l.length + (subs true p).length ≤ 100000000 → Calls Tryz.prog 163 #[.pointer (some ⟨b, 0, none⟩), .bool true, lv] w (PartsPost w lv l (subs true p)))
    (hlk : (rps k ps).length ≤ 100000000) (hr : rtm k = false) (hit : isIt true k = false) (hw : wd.toList = [61]) :
    Calls Tryz.prog 163 #[.pointer (some ⟨b, 0, none⟩), .bool true, lv] w (PartsPost w lv l (subs true (.mk k word v ps))) := by
  obtain ⟨ka, kc, rfl, hkid⟩ := hkid
  obtain ⟨la, lc, rfl, _⟩ := SR.shape hsr
  have HNB := hide hnb
  have HDB := hide hdb
  have HF := hide hf
  have HKID := hide hkid
  have HFA := hide hfa
  have HDL := hide hdl
  have HSR := hide hsr
  have HLD := hide hld
  have HLEN := hide hlen
  have HIH := hide hih
  have c0 := cell_of_block hnb 0
  have c1 := cell_of_block hnb 1
  have c3 := cell_of_block hnb 3
  have c4 := cell_of_block hnb 4
  obtain ⟨i0, hi, hz0, hz1, hz2⟩ := info_parts infoStr
  have HI : Hid (Tryz.prog.info? 9 = some i0 ∧ i0.zero = some (.string ByteArray.empty) ∧ i0.size = 1 ∧ i0.bytes = 16) := ⟨hi, hz0, hz1, hz2⟩
  clear hnb hdb hf hkid hfa hdl hsr hld hlen hih hi hz0 hz1 hz2
  rw [hr] at HNB c3
  have a0 : (wd.toList == [61]) = true := by rw [hw]; decide
  clear hw
  have HPM := hide (pm_refl HSR.out)
  have HIT := hide hit
  clear hit
  go_enter Tryz.func163, Tryz.ntmps163
  go_wp2_with fail
  go_loopw [2, 9] (fun vv i wr => ∃ (j : Nat) (l' : List ByteArray), j ≤ (rps k ps).length ∧ i = .int .i64 j ∧ PM w (.slice la l.length lc) l ([] ++ subsAll true ((rps k ps).take j)) vv l' wr) (fun _ i _ => (rps k ps).length - (intOf i).toNat)
  case atStart => exact ⟨0, _, Nat.zero_le _, rfl, by simpa [subsAll] using HPM.out⟩
  case round =>
    clear HPM
    obtain ⟨j, l', hj, rfl, hpm⟩ := hrel
    have HPM := hide hpm
    obtain ⟨va, vc, hvv, _⟩ := SR.shape hpm.2.1
    subst hvv
    have kb := (hpm.1.block _ (block_lt HNB.out) (fun e => HLD.out _ e HDB.out)).trans HNB.out
    have d1 := cell_of_block kb 1
    clear hpm kb
    by_cases hlt : j < (rps k ps).length
    · obtain ⟨p, hp⟩ : ∃ p, (rps k ps)[j]? = some p := ⟨_, List.getElem?_eq_getElem hlt⟩
      obtain ⟨g, cb, rfl, hgl, hDg, hcell, hrn⟩ := HKID.out j p hp
      rw [← HPM.out.1.cell (p := ⟨g, j, none⟩) hgl (fun e => HLD.out _ e hDg)] at hcell
      have HC := hide (HIH.out p (List.mem_of_getElem? hp) wr D cb _ l' (hrn.ext HPM.out.1 (fun q _ hd e => HLD.out q e hd)) (fun q hq => Nat.lt_of_lt_of_le (HDL.out q hq) HPM.out.1.size) HPM.out.2.1 (fun q hq hd => (HPM.out.2.2.2.2 q hq).elim (fun e => HLD.out q e hd) (fun e => by have := HDL.out q hd; omega)) (by
        have h1 := HPM.out.2.2.2.1
        have h2 := HLEN.out
        have h3 := subs_take true hp
        rw [subs_no HIT.out, List.length_append, ← HFA.out.1 true] at h2
        rw [List.length_append] at h1
        omega))
      have HP := hide hp
      clear hp hrn hgl hDg
      go_wp2_with fail
      refine HC.out.mono ?_
      rintro e w2 hp2
      obtain ⟨v2, l2, rfl, hpm2⟩ := pm_step HPM.out hp2
      have HPM2 := hide hpm2
      clear hp2 hpm2 HC
      go_wp2_with fail
      go_roundw
      case measure => simp [intOf]; omega
      case rel => exact ⟨j + 1, l2, by omega, by go_num, by rw [subs_snoc true HP.out, ← List.append_assoc]; exact HPM2.out⟩
    · go_wp2_with fail
      go_ret
      refine ⟨_, l', rfl, ?_⟩
      have h1 := HPM.out
      rw [List.take_of_length_le (by omega), HFA.out.1 true] at h1
      rw [subs_no HIT.out]
      exact h1

set_option maxRecDepth 100000 in
set_option maxHeartbeats 1000000 in
theorem parts_1_t {w : World} {D : Nat → Prop} {b : Nat} {lv : Value} {l : List ByteArray} {k v : Int} {word wd fm : ByteArray} {ps : List Nd} {pv by_ : Value} (hnb : w.heap[b]? = some (.cells #[.string wd, pv, by_, .bool (rtm k), .string fm] 235)) (hdb : D b) (hf : fm.toList = formOf (.mk k word v ps))
    (hkid : ∃ a cap, pv = .slice a (rps k ps).length cap ∧ ∀ i p, (rps k ps)[i]? = some p → ∃ g c, a = some ⟨g, 0, none⟩ ∧ g < w.heap.size ∧ D g ∧ w.cell? ⟨g, i, none⟩ = some (.pointer (some ⟨c, 0, none⟩)) ∧ RN w D c p)
    (hfa : (∀ t, subsAll t (rps k ps) = subsAll t ps) ∧ True) (hdl : ∀ q, D q → q < w.heap.size) (hsr : SR w lv l) (hld : ∀ g, lv.ownBlock = some g → ¬ D g) (hlen : l.length + (subs true (.mk k word v ps)).length ≤ 100000000)
    (hih : ∀ p ∈ rps k ps, ∀ (w : World) (D : Nat → Prop) (b : Nat) (lv : Value) (l : List ByteArray), RN w D b p → (∀ q, D q → q < w.heap.size) → SR w lv l → (∀ g, lv.ownBlock = some g → ¬ D g) → l.length + (subs true p).length ≤ 100000000 → Calls Tryz.prog 163 #[.pointer (some ⟨b, 0, none⟩), .bool true, lv] w (PartsPost w lv l (subs true p)))
    (hlk : (rps k ps).length ≤ 100000000) (hr : rtm k = false) (hit : isIt true k = false) (hw : wd.toList = [60]) :
    Calls Tryz.prog 163 #[.pointer (some ⟨b, 0, none⟩), .bool true, lv] w (PartsPost w lv l (subs true (.mk k word v ps))) := by
  obtain ⟨ka, kc, rfl, hkid⟩ := hkid
  obtain ⟨la, lc, rfl, _⟩ := SR.shape hsr
  have HNB := hide hnb
  have HDB := hide hdb
  have HF := hide hf
  have HKID := hide hkid
  have HFA := hide hfa
  have HDL := hide hdl
  have HSR := hide hsr
  have HLD := hide hld
  have HLEN := hide hlen
  have HIH := hide hih
  have c0 := cell_of_block hnb 0
  have c1 := cell_of_block hnb 1
  have c3 := cell_of_block hnb 3
  have c4 := cell_of_block hnb 4
  obtain ⟨i0, hi, hz0, hz1, hz2⟩ := info_parts infoStr
  have HI : Hid (Tryz.prog.info? 9 = some i0 ∧ i0.zero = some (.string ByteArray.empty) ∧ i0.size = 1 ∧ i0.bytes = 16) := ⟨hi, hz0, hz1, hz2⟩
  clear hnb hdb hf hkid hfa hdl hsr hld hlen hih hi hz0 hz1 hz2
  rw [hr] at HNB c3
  have a0 : (wd.toList == [61]) = false := by rw [hw]; decide
  have a1 : (wd.toList == [60]) = true := by rw [hw]; decide
  clear hw
  have HPM := hide (pm_refl HSR.out)
  have HIT := hide hit
  clear hit
  go_enter Tryz.func163, Tryz.ntmps163
  go_wp2_with fail
  go_loopw [2, 9] (fun vv i wr => ∃ (j : Nat) (l' : List ByteArray), j ≤ (rps k ps).length ∧ i = .int .i64 j ∧ PM w (.slice la l.length lc) l ([] ++ subsAll true ((rps k ps).take j)) vv l' wr) (fun _ i _ => (rps k ps).length - (intOf i).toNat)
  case atStart => exact ⟨0, _, Nat.zero_le _, rfl, by simpa [subsAll] using HPM.out⟩
  case round =>
    clear HPM
    obtain ⟨j, l', hj, rfl, hpm⟩ := hrel
    have HPM := hide hpm
    obtain ⟨va, vc, hvv, _⟩ := SR.shape hpm.2.1
    subst hvv
    have kb := (hpm.1.block _ (block_lt HNB.out) (fun e => HLD.out _ e HDB.out)).trans HNB.out
    have d1 := cell_of_block kb 1
    clear hpm kb
    by_cases hlt : j < (rps k ps).length
    · obtain ⟨p, hp⟩ : ∃ p, (rps k ps)[j]? = some p := ⟨_, List.getElem?_eq_getElem hlt⟩
      obtain ⟨g, cb, rfl, hgl, hDg, hcell, hrn⟩ := HKID.out j p hp
      rw [← HPM.out.1.cell (p := ⟨g, j, none⟩) hgl (fun e => HLD.out _ e hDg)] at hcell
      have HC := hide (HIH.out p (List.mem_of_getElem? hp) wr D cb _ l' (hrn.ext HPM.out.1 (fun q _ hd e => HLD.out q e hd)) (fun q hq => Nat.lt_of_lt_of_le (HDL.out q hq) HPM.out.1.size) HPM.out.2.1 (fun q hq hd => (HPM.out.2.2.2.2 q hq).elim (fun e => HLD.out q e hd) (fun e => by have := HDL.out q hd; omega)) (by
        have h1 := HPM.out.2.2.2.1
        have h2 := HLEN.out
        have h3 := subs_take true hp
        rw [subs_no HIT.out, List.length_append, ← HFA.out.1 true] at h2
        rw [List.length_append] at h1
        omega))
      have HP := hide hp
      clear hp hrn hgl hDg
      go_wp2_with fail
      refine HC.out.mono ?_
      rintro e w2 hp2
      obtain ⟨v2, l2, rfl, hpm2⟩ := pm_step HPM.out hp2
      have HPM2 := hide hpm2
      clear hp2 hpm2 HC
      go_wp2_with fail
      go_roundw
      case measure => simp [intOf]; omega
      case rel => exact ⟨j + 1, l2, by omega, by go_num, by rw [subs_snoc true HP.out, ← List.append_assoc]; exact HPM2.out⟩
    · go_wp2_with fail
      go_ret
      refine ⟨_, l', rfl, ?_⟩
      have h1 := HPM.out
      rw [List.take_of_length_le (by omega), HFA.out.1 true] at h1
      rw [subs_no HIT.out]
      exact h1

set_option maxRecDepth 100000 in
set_option maxHeartbeats 1000000 in
theorem parts_2_t {w : World} {D : Nat → Prop} {b : Nat} {lv : Value} {l : List ByteArray} {k v : Int} {word wd fm : ByteArray} {ps : List Nd} {pv by_ : Value} (hnb : w.heap[b]? = some (.cells #[.string wd, pv, by_, .bool (rtm k), .string fm] 235)) (hdb : D b) (hf : fm.toList = formOf (.mk k word v ps))
    (hkid : ∃ a cap, pv = .slice a (rps k ps).length cap ∧ ∀ i p, (rps k ps)[i]? = some p → ∃ g c, a = some ⟨g, 0, none⟩ ∧ g < w.heap.size ∧ D g ∧ w.cell? ⟨g, i, none⟩ = some (.pointer (some ⟨c, 0, none⟩)) ∧ RN w D c p)
    (hfa : (∀ t, subsAll t (rps k ps) = subsAll t ps) ∧ True) (hdl : ∀ q, D q → q < w.heap.size) (hsr : SR w lv l) (hld : ∀ g, lv.ownBlock = some g → ¬ D g) (hlen : l.length + (subs true (.mk k word v ps)).length ≤ 100000000)
    (hih : ∀ p ∈ rps k ps, ∀ (w : World) (D : Nat → Prop) (b : Nat) (lv : Value) (l : List ByteArray), RN w D b p → (∀ q, D q → q < w.heap.size) → SR w lv l → (∀ g, lv.ownBlock = some g → ¬ D g) → l.length + (subs true p).length ≤ 100000000 → Calls Tryz.prog 163 #[.pointer (some ⟨b, 0, none⟩), .bool true, lv] w (PartsPost w lv l (subs true p)))
    (hlk : (rps k ps).length ≤ 100000000) (hr : rtm k = false) (hit : isIt true k = false) (hw : wd.toList = [60, 61]) :
    Calls Tryz.prog 163 #[.pointer (some ⟨b, 0, none⟩), .bool true, lv] w (PartsPost w lv l (subs true (.mk k word v ps))) := by
  obtain ⟨ka, kc, rfl, hkid⟩ := hkid
  obtain ⟨la, lc, rfl, _⟩ := SR.shape hsr
  have HNB := hide hnb
  have HDB := hide hdb
  have HF := hide hf
  have HKID := hide hkid
  have HFA := hide hfa
  have HDL := hide hdl
  have HSR := hide hsr
  have HLD := hide hld
  have HLEN := hide hlen
  have HIH := hide hih
  have c0 := cell_of_block hnb 0
  have c1 := cell_of_block hnb 1
  have c3 := cell_of_block hnb 3
  have c4 := cell_of_block hnb 4
  obtain ⟨i0, hi, hz0, hz1, hz2⟩ := info_parts infoStr
  have HI : Hid (Tryz.prog.info? 9 = some i0 ∧ i0.zero = some (.string ByteArray.empty) ∧ i0.size = 1 ∧ i0.bytes = 16) := ⟨hi, hz0, hz1, hz2⟩
  clear hnb hdb hf hkid hfa hdl hsr hld hlen hih hi hz0 hz1 hz2
  rw [hr] at HNB c3
  have a0 : (wd.toList == [61]) = false := by rw [hw]; decide
  have a1 : (wd.toList == [60]) = false := by rw [hw]; decide
  have a2 : (wd.toList == [60, 61]) = true := by rw [hw]; decide
  clear hw
  have HPM := hide (pm_refl HSR.out)
  have HIT := hide hit
  clear hit
  go_enter Tryz.func163, Tryz.ntmps163
  go_wp2_with fail
  go_loopw [2, 9] (fun vv i wr => ∃ (j : Nat) (l' : List ByteArray), j ≤ (rps k ps).length ∧ i = .int .i64 j ∧ PM w (.slice la l.length lc) l ([] ++ subsAll true ((rps k ps).take j)) vv l' wr) (fun _ i _ => (rps k ps).length - (intOf i).toNat)
  case atStart => exact ⟨0, _, Nat.zero_le _, rfl, by simpa [subsAll] using HPM.out⟩
  case round =>
    clear HPM
    obtain ⟨j, l', hj, rfl, hpm⟩ := hrel
    have HPM := hide hpm
    obtain ⟨va, vc, hvv, _⟩ := SR.shape hpm.2.1
    subst hvv
    have kb := (hpm.1.block _ (block_lt HNB.out) (fun e => HLD.out _ e HDB.out)).trans HNB.out
    have d1 := cell_of_block kb 1
    clear hpm kb
    by_cases hlt : j < (rps k ps).length
    · obtain ⟨p, hp⟩ : ∃ p, (rps k ps)[j]? = some p := ⟨_, List.getElem?_eq_getElem hlt⟩
      obtain ⟨g, cb, rfl, hgl, hDg, hcell, hrn⟩ := HKID.out j p hp
      rw [← HPM.out.1.cell (p := ⟨g, j, none⟩) hgl (fun e => HLD.out _ e hDg)] at hcell
      have HC := hide (HIH.out p (List.mem_of_getElem? hp) wr D cb _ l' (hrn.ext HPM.out.1 (fun q _ hd e => HLD.out q e hd)) (fun q hq => Nat.lt_of_lt_of_le (HDL.out q hq) HPM.out.1.size) HPM.out.2.1 (fun q hq hd => (HPM.out.2.2.2.2 q hq).elim (fun e => HLD.out q e hd) (fun e => by have := HDL.out q hd; omega)) (by
        have h1 := HPM.out.2.2.2.1
        have h2 := HLEN.out
        have h3 := subs_take true hp
        rw [subs_no HIT.out, List.length_append, ← HFA.out.1 true] at h2
        rw [List.length_append] at h1
        omega))
      have HP := hide hp
      clear hp hrn hgl hDg
      go_wp2_with fail
      refine HC.out.mono ?_
      rintro e w2 hp2
      obtain ⟨v2, l2, rfl, hpm2⟩ := pm_step HPM.out hp2
      have HPM2 := hide hpm2
      clear hp2 hpm2 HC
      go_wp2_with fail
      go_roundw
      case measure => simp [intOf]; omega
      case rel => exact ⟨j + 1, l2, by omega, by go_num, by rw [subs_snoc true HP.out, ← List.append_assoc]; exact HPM2.out⟩
    · go_wp2_with fail
      go_ret
      refine ⟨_, l', rfl, ?_⟩
      have h1 := HPM.out
      rw [List.take_of_length_le (by omega), HFA.out.1 true] at h1
      rw [subs_no HIT.out]
      exact h1

set_option maxRecDepth 100000 in
set_option maxHeartbeats 1000000 in
theorem parts_3_t {w : World} {D : Nat → Prop} {b : Nat} {lv : Value} {l : List ByteArray} {k v : Int} {word wd fm : ByteArray} {ps : List Nd} {pv by_ : Value} (hnb : w.heap[b]? = some (.cells #[.string wd, pv, by_, .bool (rtm k), .string fm] 235)) (hdb : D b) (hf : fm.toList = formOf (.mk k word v ps))
    (hkid : ∃ a cap, pv = .slice a (rps k ps).length cap ∧ ∀ i p, (rps k ps)[i]? = some p → ∃ g c, a = some ⟨g, 0, none⟩ ∧ g < w.heap.size ∧ D g ∧ w.cell? ⟨g, i, none⟩ = some (.pointer (some ⟨c, 0, none⟩)) ∧ RN w D c p)
    (hfa : (∀ t, subsAll t (rps k ps) = subsAll t ps) ∧ True) (hdl : ∀ q, D q → q < w.heap.size) (hsr : SR w lv l) (hld : ∀ g, lv.ownBlock = some g → ¬ D g) (hlen : l.length + (subs true (.mk k word v ps)).length ≤ 100000000)
    (hih : ∀ p ∈ rps k ps, ∀ (w : World) (D : Nat → Prop) (b : Nat) (lv : Value) (l : List ByteArray), RN w D b p → (∀ q, D q → q < w.heap.size) → SR w lv l → (∀ g, lv.ownBlock = some g → ¬ D g) → l.length + (subs true p).length ≤ 100000000 → Calls Tryz.prog 163 #[.pointer (some ⟨b, 0, none⟩), .bool true, lv] w (PartsPost w lv l (subs true p)))
    (hlk : (rps k ps).length ≤ 100000000) (hr : rtm k = false) (hit : isIt true k = false) (hw : wd.toList = wLe) :
    Calls Tryz.prog 163 #[.pointer (some ⟨b, 0, none⟩), .bool true, lv] w (PartsPost w lv l (subs true (.mk k word v ps))) := by
  obtain ⟨ka, kc, rfl, hkid⟩ := hkid
  obtain ⟨la, lc, rfl, _⟩ := SR.shape hsr
  have HNB := hide hnb
  have HDB := hide hdb
  have HF := hide hf
  have HKID := hide hkid
  have HFA := hide hfa
  have HDL := hide hdl
  have HSR := hide hsr
  have HLD := hide hld
  have HLEN := hide hlen
  have HIH := hide hih
  have c0 := cell_of_block hnb 0
  have c1 := cell_of_block hnb 1
  have c3 := cell_of_block hnb 3
  have c4 := cell_of_block hnb 4
  obtain ⟨i0, hi, hz0, hz1, hz2⟩ := info_parts infoStr
  have HI : Hid (Tryz.prog.info? 9 = some i0 ∧ i0.zero = some (.string ByteArray.empty) ∧ i0.size = 1 ∧ i0.bytes = 16) := ⟨hi, hz0, hz1, hz2⟩
  clear hnb hdb hf hkid hfa hdl hsr hld hlen hih hi hz0 hz1 hz2
  rw [hr] at HNB c3
  have a0 : (wd.toList == [61]) = false := by rw [hw]; decide
  have a1 : (wd.toList == [60]) = false := by rw [hw]; decide
  have a2 : (wd.toList == [60, 61]) = false := by rw [hw]; decide
  have a3 : (wd.toList == [108, 101]) = true := by rw [hw]; decide
  clear hw
  have HPM := hide (pm_refl HSR.out)
  have HIT := hide hit
  clear hit
  go_enter Tryz.func163, Tryz.ntmps163
  go_wp2_with fail
  go_loopw [2, 9] (fun vv i wr => ∃ (j : Nat) (l' : List ByteArray), j ≤ (rps k ps).length ∧ i = .int .i64 j ∧ PM w (.slice la l.length lc) l ([] ++ subsAll true ((rps k ps).take j)) vv l' wr) (fun _ i _ => (rps k ps).length - (intOf i).toNat)
  case atStart => exact ⟨0, _, Nat.zero_le _, rfl, by simpa [subsAll] using HPM.out⟩
  case round =>
    clear HPM
    obtain ⟨j, l', hj, rfl, hpm⟩ := hrel
    have HPM := hide hpm
    obtain ⟨va, vc, hvv, _⟩ := SR.shape hpm.2.1
    subst hvv
    have kb := (hpm.1.block _ (block_lt HNB.out) (fun e => HLD.out _ e HDB.out)).trans HNB.out
    have d1 := cell_of_block kb 1
    clear hpm kb
    by_cases hlt : j < (rps k ps).length
    · obtain ⟨p, hp⟩ : ∃ p, (rps k ps)[j]? = some p := ⟨_, List.getElem?_eq_getElem hlt⟩
      obtain ⟨g, cb, rfl, hgl, hDg, hcell, hrn⟩ := HKID.out j p hp
      rw [← HPM.out.1.cell (p := ⟨g, j, none⟩) hgl (fun e => HLD.out _ e hDg)] at hcell
      have HC := hide (HIH.out p (List.mem_of_getElem? hp) wr D cb _ l' (hrn.ext HPM.out.1 (fun q _ hd e => HLD.out q e hd)) (fun q hq => Nat.lt_of_lt_of_le (HDL.out q hq) HPM.out.1.size) HPM.out.2.1 (fun q hq hd => (HPM.out.2.2.2.2 q hq).elim (fun e => HLD.out q e hd) (fun e => by have := HDL.out q hd; omega)) (by
        have h1 := HPM.out.2.2.2.1
        have h2 := HLEN.out
        have h3 := subs_take true hp
        rw [subs_no HIT.out, List.length_append, ← HFA.out.1 true] at h2
        rw [List.length_append] at h1
        omega))
      have HP := hide hp
      clear hp hrn hgl hDg
      go_wp2_with fail
      refine HC.out.mono ?_
      rintro e w2 hp2
      obtain ⟨v2, l2, rfl, hpm2⟩ := pm_step HPM.out hp2
      have HPM2 := hide hpm2
      clear hp2 hpm2 HC
      go_wp2_with fail
      go_roundw
      case measure => simp [intOf]; omega
      case rel => exact ⟨j + 1, l2, by omega, by go_num, by rw [subs_snoc true HP.out, ← List.append_assoc]; exact HPM2.out⟩
    · go_wp2_with fail
      go_ret
      refine ⟨_, l', rfl, ?_⟩
      have h1 := HPM.out
      rw [List.take_of_length_le (by omega), HFA.out.1 true] at h1
      rw [subs_no HIT.out]
      exact h1

end Go.Proofs.YtegbdaffhpiacaaGreatDoor
