/- The law: how a pair with frames begins; The law: a step of Assert, of a pair with frames; the game of Stacks; The law: a step of Assert; the game of Stacks. -/
import Derived.Test.YtegbdaffhpiacaaGreatDoorOwn33
/- The law: how a pair with frames begins. -/
namespace Go.Proofs.YtegbdaffhpiacaaGreatDoor
open Go.RowKit Ar

theorem pf_new {ps k : Nat} : PF ps px0 k ↔ k = ps := by
  constructor
  · rintro ((e | e | e) | e | e)
    · exact e
    all_goals exact absurd e (by simp [px0, Value.ownBlock, mapB])
  · exact fun e => .inl (.inl e)

theorem sf_new {ps k : Nat} {pv : Value} : SF ps pv px0 k ↔ k = ps ∨ pv.ownBlock = some k := by
  constructor
  · rintro (e | e | e | e)
    · exact .inl (pf_new.1 e)
    · exact .inr e
    all_goals exact absurd e (by simp [px0, Value.ownBlock])
  · rintro (e | e)
    · exact .inl (pf_new.2 e)
    · exact .inr (.inl e)

theorem pss_new {w : World} {ps : Nat} {N : List Nm} {pv : Value} (h : PS w ps N pv px0) : PSS w ps N pv px0 [] [] 0 [] where
  p := ⟨⟨h.blk, ⟨World.ownsRow_nil _ _ _ _, List.nodup_nil, by simp [keys], .inl ⟨rfl, rfl⟩, fun g hg => absurd hg (by simp [px0, Value.ownBlock])⟩, by intro i x hx; simp at hx, List.nodup_nil, fun g hg => absurd hg (by simp [px0, Value.ownBlock]), fun g hg => absurd hg (by simp [px0, mapB])⟩,
    ⟨World.ownsRow_nil _ _ _ _, List.nodup_nil, by simp [keysA], .inl ⟨rfl, rfl⟩, fun g hg => absurd hg (by simp [px0, Value.ownBlock])⟩, by intro x hx; simp at hx, List.nodup_nil, fun g hg => absurd hg (by simp [px0, Value.ownBlock]), fun g hg => absurd hg (by simp [px0, mapB]), fun k _ => by simp [px0, Value.ownBlock, mapB]⟩
  nown := h.own
  few := h.few
  ok := h.ok
  fown := ⟨[], World.ownsRow_nil _ _ _ _⟩
  kown := World.ownsRow_nil _ _ _ _
  ffew := by omega
  kfew := by simp
  tfew := by simp
  afew := by simp
  n1 := fun k hk => ⟨fun e => h.sep k hk (pf_new.1 e), by simp [px0, Value.ownBlock], by simp [px0, Value.ownBlock]⟩
  f1 := fun k hk => absurd hk (by simp [px0, Value.ownBlock])
  k1 := fun k hk => absurd hk (by simp [px0, Value.ownBlock])

theorem reft_new {w : World} {rs : Nat} {N : List Nm} {rv : Value} (h : RefS w rs N rv (.slice none 0 0) 0) : RefT w rs N [] rv (.slice none 0 0) 0 (fun _ => False) :=
  ⟨h, World.ownsRow_nil _ _ _ _, by simp, by simp, by simp, by omega, by omega, fun g hg => absurd hg (by simp [Value.ownBlock]), fun g hg => absurd hg (by simp [Value.ownBlock]), fun _ f => f.elim, fun f => f, fun _ _ f => f, fun _ _ f => f⟩

theorem stk_names {N : List Nm} (h : ∀ x ∈ N, x.fr ≤ 0) : Stk N [] [] [] [] := ⟨Once.nil _, Once.nil _, by simp, by simpa using h, by simp, by simp, List.Pairwise.nil⟩

theorem stg_start (w : World) (ps rs : Nat) (pv rv : Value) (h : PairI w ps rs nms3 pv rv px0 (.slice none 0 0) 0) : StG ps rs w (Foot ps rs pv rv) := by
  refine ⟨nms3, [], [], [], [], [], pv, px0, rv, .slice none 0 0, fun _ => False, ⟨pss_new h.p, reft_new h.r, rfl, stk_names (by simp [nms3]), ⟨⟨bX, 0, 0⟩, by simp [nms3], by decide⟩, ?_⟩, ?_⟩
  · intro k hk hr
    rcases sf_new.1 hk with e | e <;> rcases hr with e2 | e2 | e2 | e2
    · exact h.ab (e.symm.trans e2)
    · exact h.rp k e2 e
    · exact absurd e2 (by simp [Value.ownBlock])
    · exact e2
    · exact h.pr k e e2
    · exact h.vv k e e2
    · exact absurd e2 (by simp [Value.ownBlock])
    · exact e2
  · funext k
    apply propext
    constructor
    · rintro (e | e | e | e)
      · exact .inl (sf_new.2 (.inl e))
      · exact .inr (.inl e)
      · exact .inl (sf_new.2 (.inr e))
      · exact .inr (.inr (.inl e))
    · rintro (e | e | e | e | e)
      · rcases sf_new.1 e with e | e
        · exact .inl e
        · exact .inr (.inr (.inl e))
      · exact .inr (.inl e)
      · exact .inr (.inr (.inr e))
      · exact absurd e (by simp [Value.ownBlock])
      · exact e.elim

end Go.Proofs.YtegbdaffhpiacaaGreatDoor

/- The law: a step of Assert, of a pair with frames; the game of Stacks. -/
namespace Go.Proofs.YtegbdaffhpiacaaGreatDoor
open Go.RowKit Ar

section
variable {w : World} {ps rs : Nat} {N : List Nm} {L : List (Nd × Int)} {T A : List Nd} {K : List Fr4} {X : List Ld} {pv : Value} {xs : PX} {rv lv : Value} {D : Nat → Prop}

/-- What the program's Assert leaves, beside what the document's answers. -/
theorem prog_assert (s : ByteArray) (h : PairT w ps rs N L T A K X pv xs rv lv D) (hs : s.size ≤ maxLen) (hhd : HdLaid w) :
    Calls Tryz.prog 25 #[.pointer (some ⟨ps, 0, none⟩), .string s] w fun e w' => ∃ T' A', e = .returned (.tuple #[.int .i64 (asOut N (L.map Prod.fst) s).1, .int .i64 (asOut N (L.map Prod.fst) s).2.1]) ∧
      SPost w ps pv xs N T' A' (L ++ optL (asOut N (L.map Prod.fst) s).2.2 K.length).length K w' ∧ Stk N (L ++ optL (asOut N (L.map Prod.fst) s).2.2 K.length) T' A' K := by
  by_cases h6 : 600 < s.size
  · refine (pa_long s h.p h6 hs).mono ?_
    rintro e w' ⟨rfl, hp⟩
    rw [asOut_long h6]
    refine ⟨T, A, rfl, ?_, ?_⟩
    · simpa [optL] using hp
    · simpa [optL] using h.st
  · have h6' : s.size ≤ 600 := by omega
    match hr : rdWhole N s.toList with
    | .no e0 p0 =>
      refine (pa_no s h.p h6' hhd hr).mono ?_
      rintro e w' ⟨rfl, hp⟩
      rw [asOut_no h6' hr]
      refine ⟨T, A, rfl, ?_, ?_⟩
      · simpa [optL] using hp
      · simpa [optL] using h.st
    | .ok nd us =>
      by_cases hf : L.length < 20
      · have hok := whole_shape h.p.ok hr
        refine (pa_take s h.p h6' hhd hr hf).mono ?_
        rintro e w' ⟨T', A', hT, hA, rfl, hp⟩
        have hTn := hT.nd h.p.p.ts.nd
        have hAn := hA.nd h.p.p.nd
        rw [asOut_code h.st h6' hr hok hf hT hA hTn hAn]
        by_cases hc : tkCode T'.length A'.length = 0
        · rw [if_pos hc, if_pos hc, if_pos hc] at hp
          refine ⟨T', A', rfl, ?_, ?_⟩
          · simpa [optL, hc] using hp
          · simpa [optL, hc] using h.st.take hok hT hA hTn hAn
        · rw [if_neg hc, if_neg hc, if_neg hc] at hp
          refine ⟨T, A, rfl, ?_, ?_⟩
          · simpa [optL, hc] using hp
          · simpa [optL, hc] using h.st
      · refine (pa_full s h.p h6' hhd hr (by omega)).mono ?_
        rintro e w' ⟨rfl, hp⟩
        rw [asOut_full h6' hr (by simp; omega)]
        refine ⟨T, A, rfl, ?_, ?_⟩
        · simpa [optL] using hp
        · simpa [optL] using h.st

set_option maxRecDepth 100000 in
set_option maxHeartbeats 400000 in
theorem stacks_assert (on : Int) (s : ByteArray) (a : Int) (h : PairT w ps rs N L T A K X pv xs rv lv D) (hs : s.size ≤ maxLen) (hhd : HdLaid w) :
    Calls Tryz.prog 54 #[.agg #[.pointer (some ⟨ps, 0, none⟩), .pointer (some ⟨rs, 0, none⟩)], .agg #[.int .i64 3, .int .i64 on, .string s, .int .i64 a]] w (StepPost StG ps rs w (Ft ps rs pv xs rv lv D)) := by
  have H := hide h
  have HHD := hide hhd
  have hne := h.pos
  clear h hhd
  go_enter Tryz.func54, Tryz.ntmps54
  go_wp2_with fail
  obtain ⟨W, hW⟩ : ∃ W, (w.alloc (.cells #[.pointer (some ⟨ps, 0, none⟩), .pointer (some ⟨rs, 0, none⟩)] 57)).alloc (.cells #[.int .i64 3, .int .i64 on, .string s, .int .i64 a] 66) = W := ⟨_, rfl⟩
  have hxW : Ext (fun _ => False) w W := by rw [← hW]; exact ((Ext.refl _ w).alloc _).alloc _
  have hWs : W.heap.size = w.heap.size + 2 := by rw [← hW]; simp
  have kA : W.heap[w.heap.size]? = some (.cells #[.pointer (some ⟨ps, 0, none⟩), .pointer (some ⟨rs, 0, none⟩)] 57) := by rw [← hW, heap_alloc_old _ _ (by simp)]; exact heap_alloc_new w _
  have kB : W.heap[w.heap.size + 1]? = some (.cells #[.int .i64 3, .int .i64 on, .string s, .int .i64 a] 66) := by rw [← hW]; exact heap_alloc2_new w _ _
  rw [hW]
  clear hW
  have hI := H.out.ext hxW (fun _ _ f => f)
  have HI := hide hI
  have HXW := hide hxW
  have hlp : ∀ k, SF ps pv xs k → k < w.heap.size := fun k hk => H.out.lt k (.inl hk)
  have hnds : nds X = L.map Prod.fst := by rw [nds_pl, H.out.e]
  have HNDS := hide hnds
  refine (prog_assert s hI hs (HHD.out.ext hxW (fun f => f))).mono ?_
  clear hI hxW hnds
  rintro e w1 ⟨T', A', rfl, hp, hst⟩
  have kA1 := (hp.1.block _ (block_lt kA) (fun h => by have := hlp _ h; omega)).trans kA
  have kB1 := (hp.1.block _ (block_lt kB) (fun h => by have := hlp _ h; omega)).trans kB
  have a1 := cell_of_block kA1 1
  have b2 := cell_of_block kB1 2
  have HP := hide hp
  have HST := hide hst
  have HR := hide (HI.out.r1 hp)
  clear hp hst kA kB kA1 kB1 hlp
  go_wp2_with fail
  refine (ref_assert s HR.out hne hs).mono ?_
  rintro e w2 hd2
  obtain ⟨he, hq⟩ := as_rpost hd2
  rw [HNDS.out] at he hq
  rw [HI.out.e] at hq
  subst he
  have HQ := hide hq
  clear hd2 hq a1 b2
  go_wp2_with (go_at_call 80; refine (num_any _ _).mono ?_; rintro e w' ⟨rfl, rfl⟩)
  go_ret
  exact StepPost.of_new HXW.out (pairT_done HI.out HP.out HQ.out HST.out HI.out.n0)

end
end Go.Proofs.YtegbdaffhpiacaaGreatDoor

/- The law: a step of Assert; the game of Stacks. -/
namespace Go.Proofs.YtegbdaffhpiacaaGreatDoor
open Go.RowKit Ar

section
variable {w : World} {ps rs : Nat} {N : List Nm} {L : List (Nd × Int)} {T A : List Nd} {K : List Fr4} {X : List Ld} {pv : Value} {xs : PX} {rv lv : Value} {D : Nat → Prop}

set_option maxRecDepth 100000 in
set_option maxHeartbeats 400000 in
theorem stepT_assert (on : Int) (s : ByteArray) (a : Int) (bk : Value) (h : PairT w ps rs N L T A K X pv xs rv lv D) (hs : s.size ≤ maxLen) (hhd : HdLaid w) :
    Calls Tryz.prog 34 #[.agg #[.pointer (some ⟨ps, 0, none⟩), .pointer (some ⟨rs, 0, none⟩)], .agg #[.int .i64 3, .int .i64 on, .string s, .int .i64 a], bk] w (StepPost StG ps rs w (Ft ps rs pv xs rv lv D)) := by
  have H := hide h
  clear h
  have HHD := hide hhd
  clear hhd
  go_enter Tryz.func34, Tryz.ntmps34
  go_wp2_with fail
  obtain ⟨W, hW⟩ : ∃ W, (w.alloc (.cells #[.pointer (some ⟨ps, 0, none⟩), .pointer (some ⟨rs, 0, none⟩)] 57)).alloc (.cells #[.int .i64 3, .int .i64 on, .string s, .int .i64 a] 66) = W := ⟨_, rfl⟩
  have hxW : Ext (fun _ => False) w W := by rw [← hW]; exact ((Ext.refl _ w).alloc _).alloc _
  rw [hW]
  clear hW
  refine (stacks_assert on s a (H.out.ext hxW (fun _ _ f => f)) hs (HHD.out.ext hxW (fun f => f))).mono ?_
  rintro e w1 hp
  have hp1 := hp.of_new hxW
  obtain ⟨rfl, hp2⟩ := hp1
  have HP2 := hide hp2
  clear hp hp2 hxW
  go_wp2_with fail
  go_ret
  exact ⟨rfl, HP2.out⟩

end

theorem stacks_game : Game 6 StG where
  ext := by
    rintro ps rs w w' F S ⟨N, L, T, A, K, X, pv, xs, rv, lv, D, h, rfl⟩ hx hS
    exact ⟨N, L, T, A, K, X, pv, xs, rv, lv, D, h.ext hx hS, rfl⟩
  lt := by
    rintro ps rs w F ⟨N, L, T, A, K, X, pv, xs, rv, lv, D, h, rfl⟩
    exact h.lt
  start := stg_start
  step := by
    rintro w ps rs F k on s a bk ⟨N, L, T, A, K, X, pv, xs, rv, lv, D, h, rfl⟩ hhd hten hk hs
    by_cases h1 : k = 1
    · subst h1; exact stepT_decl on s a bk h hs
    by_cases h2 : k = 2
    · subst h2; exact stepT_tidy on s a bk h hs hhd hten
    by_cases h3 : k = 3
    · subst h3; exact stepT_assert on s a bk h hs hhd
    by_cases h4 : k = 4
    · subst h4; exact stepT_push on s a bk h
    by_cases h5 : k = 5
    · subst h5; exact stepT_pop on s a bk h
    by_cases h6 : k = 6
    · subst h6; exact stepT_count on s a bk h
    · exact stepT_none k on s a bk h (by omega)

end Go.Proofs.YtegbdaffhpiacaaGreatDoor
