/- The reader of the document's own answer: a term in brackets; The reader of the document's own answer: a term, whatever comes; The reader of the document's own answer: formulas without brackets, brackets too deep, brackets whose first word cannot stand there. -/
import Derived.Test.YtihpglkehkgioaaGreatDoorOwn08
/- The reader of the document's own answer: a term in brackets. -/
namespace Go.Proofs.YtihpglkehkgioaaGreatDoor
open Go.RowKit Ar

/-- The loop of a term in brackets has met an error. -/
def TDead (c : Ctx) (F : List Tk → Rs Nd) (k : Int) (r2 : Rs Unit) (L : Nat) (wr : World) (f : ByteArray) : Prop :=
  ∃ (e : Int) (p : Nat), (¬ e = 0) ∧ (∃ ts d', Rd wr c ts d' e p) ∧ f.size + 3 ≤ 603 * L ∧ (r2 = .no e p ∨ ∃ us0, r2 = .ok () us0 ∧ rdRow (List.replicate k.toNat F) us0 = .no e p)

theorem info78 : (Tryz.prog.info? 90).map (fun i => (i.zero, i.size, i.bytes)) = some (some (.pointer none), 1, 8) := by kernel_rfl

set_option maxHeartbeats 400000 in
theorem term_paren {w : World} {c : Ctx} {t : Tk} {ts : List Tk} {d pl : Int} {n : Nat} (h : Rd w c (t :: ts) d 0 pl) (ho : (t.txt.toList == [40]) = true) (hn : ts.length ≤ n)
    (ih : ∀ (w : World) (ts : List Tk) (d pl : Int), ts.length ≤ n → Rd w c ts d 0 pl → Calls Tryz.prog 70 #[.pointer (some ⟨c.rb, 0, none⟩)] w (TermPost w c ts d pl (rdTerm c.N n d ts))) :
    Calls Tryz.prog 70 #[.pointer (some ⟨c.rb, 0, none⟩)] w (TermPost w c (t :: ts) d pl (rdTerm c.N (n + 1) d (t :: ts))) := by
  have hsm := h.small
  have IH := hide ih
  have HNn := hide hn
  have H := hide h
  have HN := number_any t.txt
  rw [num_open ho] at HN
  have HN' := hide HN
  have hrb := h.rbs
  have htb := h.tbs
  have hnb := h.nbs
  have hd0 := h.dlo
  clear h HN ih hn
  obtain ⟨r1, hr1⟩ : ∃ r1 : Rs Unit, (if 30 ≤ d then Rs.no 6 t.pos else Rs.ok () ts) = r1 := ⟨_, rfl⟩
  have HT : Hid (∀ W : World, Rd W c (t :: ts) d 0 pl → Calls Tryz.prog 100 #[.pointer (some ⟨c.rb, 0, none⟩)] W fun en w' => en = .returned (.tuple #[]) ∧ Ext (· = c.rb) W w' ∧ Sd w' c (d + 1) pl r1) := by
    intro W hW
    rw [← hr1]
    exact sd_take_open hW ho
  have HR1 := hide hr1
  clear hr1
  obtain ⟨i0, hi, hz0, hz1, hz2⟩ := info_parts info78
  have HI : Hid (Tryz.prog.info? 90 = some i0 ∧ i0.zero = some (.pointer none) ∧ i0.size = 1 ∧ i0.bytes = 8) := ⟨hi, hz0, hz1, hz2⟩
  clear hi hz0 hz1 hz2
  go_enter Tryz.func70, Tryz.ntmps70
  go_wp2_with first
    | (go_at_call 72; refine (rd_next H.out).mono ?_; rintro e w' ⟨rfl, m, rfl⟩)
    | (go_at_call 86; refine (HN'.out _ hsm).mono ?_; rintro e w' ⟨rfl, rfl⟩)
  have hx0 : Ext (fun _ => False) w ((w.drewN m).alloc (Obj.cells #[.string t.txt, .slice none 0 0, .int .i64 0, .bool true, .string t.txt] 117)) := ((Ext.refl _ w).drewN m).alloc _
  refine (HT.out _ (H.out.ext hx0 (fun f => f) (fun f => f) (fun f => f))).mono ?_
  rintro e w1 ⟨rfl, hx1, hs1⟩
  have kb1 : w1.heap[w.heap.size]? = some (.cells #[.string t.txt, .slice none 0 0, .int .i64 0, .bool true, .string t.txt] 117) :=
    (hx1.block _ (block_lt (heap_alloc_new (w.drewN m) _)) (by show ¬ w.heap.size = c.rb; omega)).trans (heap_alloc_new (w.drewN m) _)
  have k0 := cell_of_block kb1 0
  have f0 := frozen_of_block kb1 0
  have HX1 : Hid (Ext (· = c.rb) w w1) := (hx0.mono (fun _ _ f => f.elim)).trans hx1
  have KB1 := hide kb1
  have HS1 := hide hs1
  clear hx0 hx1 kb1 hs1
  go_wp2_with fail
  refine (sd_next HS1.out).mono ?_
  rintro e w' ⟨s1, rfl, hs1, tie1, n1, rfl⟩
  have TIE1 := hide tie1
  clear tie1
  go_wp2_with fail
  have hxs : Ext (· = w.heap.size) w1 ((w1.drewN n1).setCell ⟨w.heap.size, 0, none⟩ (.string s1)) := ((Ext.refl (· = w.heap.size) w1).drewN n1).setCell (p := ⟨w.heap.size, 0, none⟩) (fun _ => rfl) _
  refine (sd_name true (HS1.out.ext hxs (by show ¬ c.rb = w.heap.size; omega) (by show ¬ c.tb = w.heap.size; omega) (by show ¬ c.nb = w.heap.size; omega))).mono ?_
  rintro e w2 ⟨k, rfl, hx2, hs2, tie2⟩
  have kbs : ((w1.drewN n1).setCell ⟨w.heap.size, 0, none⟩ (.string s1)).heap[w.heap.size]? = some (.cells #[.string s1, .slice none 0 0, .int .i64 0, .bool true, .string t.txt] 117) := block_setCell (w := w1.drewN n1) KB1.out 0 _
  have kb2 : w2.heap[w.heap.size]? = some (.cells #[.string s1, .slice none 0 0, .int .i64 0, .bool true, .string t.txt] 117) :=
    (hx2.block _ (block_lt kbs) (by show ¬ w.heap.size = c.rb; omega)).trans kbs
  have HX2 : Hid (Ext (· = c.rb) w w2) := (HX1.out.trans' hxs (fun i hi e => by omega)).trans hx2
  have k20 := cell_of_block kb2 0
  have k24 := cell_of_block kb2 4
  have f24 := frozen_of_block kb2 4
  have KB2 := hide kb2
  have HS2 := hide hs2
  have TIE2 := hide tie2
  clear k0 f0 hxs hx2 hs2 tie2 kbs kb2
  have HK : Hid (∀ us0, nmStep c.N true r1 = .ok () us0 → 1 ≤ k ∧ k ≤ 3 ∧ ∃ u', ts = u' :: us0 ∧ s1 = u'.txt ∧ nameErr c.N true u'.txt.toList = 0 ∧ (arOf c.N u'.txt.toList) = some k ∧ d < 30) := by
    intro us0 e2
    have e3 := e2
    rw [← HR1.out] at e3
    obtain ⟨hd30, u', hts, hne⟩ := nm_ok e3
    have er : r1 = .ok () (u' :: us0) := by rw [← HR1.out, if_neg (by omega), hts]
    have e4 := TIE2.out () u' us0 () us0 er e2
    obtain ⟨_, a, ha, h1, h3⟩ := name_ok_ar H.out.names hne
    rw [ha] at e4
    have e5 : k = a := e4
    subst e5
    exact ⟨h1, h3, u', hts, TIE1.out () u' us0 er, hne, ha, hd30⟩
  go_wp2_with fail
  have HF0 : Hid ((ByteArray.mk #[40] ++ s1).toList = 40 :: (s1.toList ++ [])) := by
    show _ = _
    rw [toList_app, one_byte]; simp
  have HTS := hide H.out.ts
  have HL1 := hide H.out.len
  have HNE : Hid (2 ≤ (t :: ts).length) := by
    have h1 := H.out.wf.tail (by rw [beq_iff_eq.1 ho]; simp)
    have h2 := h1.ne
    cases ts with
    | nil => exact absurd rfl h2
    | cons a b => show 2 ≤ b.length + 1 + 1; omega
  go_loopw [8] (fun i wr => ∃ (j : Nat) (pv : Value) (f : ByteArray), i = .int .i64 j ∧ Ext (· = c.rb) w wr ∧ wr.heap[w.heap.size]? = some (.cells #[.string s1, pv, .int .i64 0, .bool true, .string f] 117) ∧
      ((∃ us0 us ps kids, nmStep c.N true r1 = .ok () us0 ∧ (j : Int) ≤ k ∧ TLive w c (d + 1) pl (rdArg (rdTerm c.N n (d + 1))) (40 :: s1.toList) us0 wr j pv f us ps kids) ∨ TDead c (rdArg (rdTerm c.N n (d + 1))) k (nmStep c.N true r1) (t :: ts).length wr f))
    (fun i _ => k.toNat - (intOf i).toNat)
  case atStart =>
    have hxe : Ext (· = w.heap.size) w2 (w2.setCell ⟨w.heap.size, 4, none⟩ (.string (ByteArray.mk #[40] ++ s1))) := (Ext.refl (· = w.heap.size) w2).setCell (p := ⟨w.heap.size, 4, none⟩) (fun _ => rfl) _
    have hS := HS2.out.ext hxe (by show ¬ c.rb = w.heap.size; omega) (by show ¬ c.tb = w.heap.size; omega) (by show ¬ c.nb = w.heap.size; omega)
    refine ⟨0, .slice none 0 0, ByteArray.mk #[40] ++ s1, rfl, HX2.out.trans' hxe (fun i hi e => by omega), block_setCell KB2.out 4 _, ?_⟩
    cases hr2 : nmStep c.N true r1 with
    | ok u us0 =>
      rw [hr2] at hS
      have := HK.out us0 hr2
      exact Or.inl ⟨us0, us0, [], [], rfl, by omega, rfl, hS, by rw [HF0.out]; rfl, World.ownsRow_nil _ _ _ _, fun g hg => absurd hg (by simp [Value.ownBlock]), fun i b p hk => absurd hk (by simp)⟩
    | no e p =>
      rw [hr2] at hS
      obtain ⟨h0, ts', d', hr⟩ := hS
      have h2 := HNE.out
      have h3 := size_of HF0.out
      have h4 := len_toList s1
      refine Or.inr ⟨e, p, h0, ⟨ts', d', hr⟩, ?_, Or.inl rfl⟩
      rw [h3]; simp at h2 ⊢; omega
  case round =>
    obtain ⟨j, pv, f, rfl, hE, kb, hst⟩ := hrel
    have KB := hide kb
    have HE := hide hE
    clear k20 k24 f24 HX2 KB2 HS2 TIE2 HX1 KB1 HS1 TIE1 HT hE
    rcases hst with ⟨us0, us, ps, kids, e2, hjk, hrow, hrd, hf, hown, hpv, hkids⟩ | ⟨e, p, he0, ⟨tsx, dx, hrd⟩, hfs, hres⟩
    · obtain ⟨hk1, hk3, u', hts, hs1u, hne, hka, hd30⟩ := HK.out us0 e2
      obtain ⟨v, vs, rfl⟩ := hrd.head
      have c4 := hrd.c4
      have hb0 : TS us0 := by
        intro x hx
        exact HTS.out x (by rw [hts]; exact List.mem_cons_of_mem _ (List.mem_cons_of_mem _ hx))
      have hfit := row_fits _ (fun g hg => by rw [(List.mem_replicate.1 hg).2]; exact arg_fits (term_fits c.N n (d + 1))) us0 ps (v :: vs) hb0 hrow
      have hsz := size_of hf
      have hs1l := len_toList s1
      have hfb : f.size + 603 * (v :: vs).length ≤ 601 + 603 * us0.length := by
        rw [hsz]; simp at hfit ⊢; omega
      have hLL : (t :: ts).length = us0.length + 2 := by rw [hts]; rfl
      have hplen : ps.length = j := by rw [row_len _ _ _ _ hrow]; simp
      have hvn : (v :: vs).length ≤ n := by
        have h1 := HNn.out
        have h2 := hfit.1
        rw [hts] at h1
        simp at h1 h2 ⊢; omega
      have HROW := hide hrow
      have HRD := hide hrd
      have HF := hide hf
      have HOWN := hide hown
      have HPV := hide hpv
      have HKIDS := hide hkids
      have HE2 := hide e2
      have HTSU := hide hts
      have HS1U := hide hs1u
      have HNERR := hide hne
      have HKA := hide hka
      have HFB := hide hfb
      have HLL := hide hLL
      have HPL := hide hplen
      have HVN := hide hvn
      have hfi : f.size ≤ 400000 := by have := HL1.out; omega
      clear hrow hrd hf hown hpv hkids e2 hts hs1u hne hka hfb hLL hplen hvn hfit hsz hb0 kb
      by_cases hlt : (j : Int) < k
      · cases hq : (v.txt.toList == [41]) with
        | true =>
          go_wp2_with first
            | (go_at_call 72; refine (rd_next HRD.out).mono ?_; rintro e w' ⟨rfl, m2, rfl⟩)
            | (go_at_call 73; refine (rd_fail_live _ (HRD.out.drewN _)).mono ?_; rintro e w5 ⟨rfl, hx, hr⟩)
          go_ret
          have hres : rdTerm c.N (n + 1) d (t :: ts) = .no 4 v.pos := by
            rw [rdTerm_paren ho hd30 HTSU.out HNERR.out HKA.out hk1, row_snoc_no HROW.out (by rw [rdArg, if_pos (by simpa using hq)]) (by omega)]
            rfl
          have hxw : Ext (· = c.rb) wr w5 := ((Ext.refl _ wr).drewN m2).trans hx
          have k5 : w5.heap[w.heap.size]? = some (.cells #[.string s1, pv, .int .i64 0, .bool true, .string f] 117) := (hxw.block _ (block_lt KB.out) (by show ¬ w.heap.size = c.rb; omega)).trans KB.out
          rw [hres]
          refine ⟨w.heap.size, _, _, _, _, f, rfl, Nat.le_refl _, HE.out.trans hxw, k5, ?_, ⟨by decide, v :: vs, d + 1, hr⟩, fun nd ts' e => absurd e (by simp)⟩
          have g2 := HFB.out
          have g3 := HLL.out
          omega
        | false =>
          go_wp2_with (go_at_call 72; refine (rd_next HRD.out).mono ?_; rintro e w' ⟨rfl, m2, rfl⟩)
          refine (IH.out _ (v :: vs) (d + 1) pl HVN.out (HRD.out.drewN m2)).mono ?_
          rintro e wt ⟨b, x0, x1, x2, x3, f', rfl, hb, hx, bb, hfs', hsd, hrn⟩
          have hxt : Ext (· = c.rb) wr wt := ((Ext.refl _ wr).drewN m2).trans hx
          have kbt : wt.heap[w.heap.size]? = some (.cells #[.string s1, pv, .int .i64 0, .bool true, .string f] 117) := (hxt.block _ (block_lt KB.out) (by show ¬ w.heap.size = c.rb; omega)).trans KB.out
          have t1 := cell_of_block kbt 1
          have HOT : Hid (wt.ownsRow 0 90 1 pv j (kids.map kp)) := own_ext HOWN.out hxt (fun g hg e => by have := HPV.out g hg; omega)
          have HX := hide hx
          have BB := hide bb
          have HSD := hide hsd
          have HRN := hide hrn
          have HB := hide hb
          have HFS := hide hfs'
          have hf'i : f'.size ≤ 400000 := by have h1 := HL1.out; have h2 := HFS.out; have h3 := HFB.out; have h4 := HLL.out; omega
          clear hxt kbt hx bb hsd hrn hb hfs'
          obtain ⟨hi, hz0, hz1, hz2⟩ := HI.out
          go_wp2_with (at_builtin; refine wpList_append_own_at _ rfl _ _ 89 rfl 0 90 i0 (.pointer none) 1 8 Tryz.underlying89 hi hz0 hz1 hz2 rfl (by decide) _ _ _ rfl (HOT.out.alloc _) ⟨wt.heap.size, 0, none⟩ 1 1 [.pointer (some ⟨b, 0, none⟩)] rfl rfl ?c1 ?c2 ?c3 ?c4 ?c5 ?_)
          case c1 =>
            intro q u hq2
            match q, hq2 with
            | 0, hq2 => simp at hq2; subst hq2; simp [Addr.add]
          case c2 => intro u hu; simp at hu; subst hu; rfl
          case c3 => unfold maxLen; omega
          case c4 => omega
          case c5 => omega
          intro v' wa hown' hgrow _ hat
          obtain ⟨ka, kab, hbx, ⟨g, cap, hv', hgx, hgb⟩, hall⟩ := part_step (hd := 40 :: s1.toList) HE.out hrb htb hnb HOWN.out HPV.out HKIDS.out HPL.out HF.out KB.out ((Ext.refl _ wr).drewN m2) HB.out HX.out BB.out HSD.out HRN.out _ hown' hgrow hat
          have HALL := hide hall
          have a1 := cell_of_block ka 1
          have a4 := cell_of_block ka 4
          have fa1 := frozen_of_block ka 1
          have fa4 := frozen_of_block ka 4
          have b4 := cell_of_block kab 4
          have KA := hide ka
          clear hall ka kab hown' hgrow hat hi hz0 hz1 hz2 t1
          subst hv'
          go_wp2_with fail
          go_region
          go_wp2_with fail
          go_roundw
          case measure => simp [intOf]; omega
          case rel =>
            have hW : Ext (· = w.heap.size) wa (((wa.setCell ⟨w.heap.size, 1, none⟩ (.slice (some ⟨g, 0, none⟩) (j + 1) cap)).setCell ⟨w.heap.size, 4, none⟩ (.string (f ++ ⟨#[32]⟩ ++ f'))).drew) :=
              (((Ext.refl (· = w.heap.size) wa).setCell (p := ⟨w.heap.size, 1, none⟩) (fun _ => rfl) _).setCell (p := ⟨w.heap.size, 4, none⟩) (fun _ => rfl) _).drew
            have kW := block_setCell (block_setCell KA.out 1 (.slice (some ⟨g, 0, none⟩) (j + 1) cap)) 4 (.string (f ++ ⟨#[32]⟩ ++ f'))
            obtain ⟨q1, q2, q3, q4, q5⟩ := HALL.out _ hW kW
            refine ⟨j + 1, _, _, by go_num, q1, kW, ?_⟩
            have harg : rdArg (rdTerm c.N n (d + 1)) (v :: vs) = rdTerm c.N n (d + 1) (v :: vs) := by
              rw [rdArg, if_neg (by simpa using hq)]
            cases hrt : rdTerm c.N n (d + 1) (v :: vs) with
            | ok nd vs' =>
              rw [hrt] at q2
              obtain ⟨q6, q7⟩ := q5 nd vs' hrt
              exact Or.inl ⟨us0, vs', ps ++ [nd], kids ++ [b], HE2.out, by omega, row_snoc_ok HROW.out (harg.trans hrt), q2, q6, q4, q3, q7⟩
            | no e p =>
              rw [hrt] at q2
              obtain ⟨h0, ts', d', hr⟩ := q2
              refine Or.inr ⟨e, p, h0, ⟨ts', d', hr⟩, ?_, Or.inr ⟨us0, HE2.out, row_snoc_no HROW.out (harg.trans hrt) (by omega)⟩⟩
              have g1 := HFS.out
              have g2 := HFB.out
              have g3 := HLL.out
              simp only [ByteArray.size_append']
              have g4 : (ByteArray.mk #[32]).size = 1 := rfl
              omega
      · have hjk2 : k.toNat = j := by omega
        have hclose : rdTerm c.N (n + 1) d (t :: ts) = rdShut 4 3 u'.txt ps (v :: vs) := by
          rw [rdTerm_paren ho hd30 HTSU.out HNERR.out HKA.out hk1, hjk2, HROW.out]; rfl
        have HCL := hide hclose
        clear hclose hjk2
        have hjf : ¬ (j : Int) < k := hlt
        cases hq : (v.txt.toList == [41]) with
        | true =>
          go_wp2_with first
            | (go_at_call 72; refine (rd_next HRD.out).mono ?_; rintro e w' ⟨rfl, m2, rfl⟩)
            | (go_at_call 101; refine (rd_must_close (HRD.out.drewN _) hq (by omega)).mono ?_; rintro e w5 ⟨rfl, hx, hr⟩
               have k5 : w5.heap[w.heap.size]? = some (.cells #[.string s1, pv, .int .i64 0, .bool true, .string f] 117) := ((((Ext.refl _ wr).drewN m2).trans hx).block _ (block_lt KB.out) (by show ¬ w.heap.size = c.rb; omega)).trans KB.out
               have k54 := cell_of_block k5 4
               have f54 := frozen_of_block k5 4
               have K5 := hide k5
               have HX5 := hide hx
               have HR5 := hide hr
               clear k5 hx hr)
          go_ret
          have hxw : Ext (· = c.rb) wr w5 := ((Ext.refl _ wr).drewN m2).trans HX5.out
          have hxe : Ext (· = w.heap.size) w5 (w5.setCell ⟨w.heap.size, 4, none⟩ (.string (f ++ ⟨#[41]⟩))) := (Ext.refl (· = w.heap.size) w5).setCell (p := ⟨w.heap.size, 4, none⟩) (fun _ => rfl) _
          have kW := block_setCell K5.out 4 (.string (f ++ ⟨#[41]⟩))
          have hr := HR5.out.ext hxe (by show ¬ c.rb = w.heap.size; omega) (by show ¬ c.tb = w.heap.size; omega) (by show ¬ c.nb = w.heap.size; omega)
          rw [show d + 1 - 1 = d from by omega] at hr
          rw [HCL.out, rdShut, if_pos (by simpa using hq)]
          have g1 := HFB.out
          have g2 := HLL.out
          have g4 : (ByteArray.mk #[41]).size = 1 := rfl
          refine ⟨w.heap.size, _, _, _, _, _, rfl, Nat.le_refl _, (HE.out.trans hxw).trans' hxe (fun i hi e => by omega), kW, ?_, hr, ?_⟩
          · simp only [ByteArray.size_append']; simp at g1; omega
          · intro nd ts' e
            injection e with e1 e2
            subst e1
            rw [← HS1U.out]
            have hps : ps ≠ [] := by intro e; have := HPL.out; rw [e] at this; simp at this; omega
            refine RN.mk (pv := pv) (form := f ++ ⟨#[41]⟩) (kids := kids) ?_ (Nat.le_refl _) ?_ ?_ (fun g hg => Nat.le_of_lt (HPV.out g hg)) ?_
            · exact kW
            · rw [formOf, if_pos (Or.inr (Or.inr hps)), tokOf, if_neg (by decide), toList_app, HF.out, one_byte]; simp
            · rw [rps, if_neg (by decide), HPL.out]
              exact own_ext (own_ext HOWN.out hxw (fun g hg e => by have := HPV.out g hg; omega)) hxe (fun g hg e => by have := HPV.out g hg; omega)
            · intro i q p hq1 hq2
              rw [rps, if_neg (by decide)] at hq2
              have h1 := HKIDS.out i q p hq1 hq2
              have h2 := h1.ext hxw (fun k _ hk e => by have := hk.1; omega)
              have h3 := h2.ext hxe (fun k _ hk e => by have := hk.1; omega)
              exact h3.mono (fun k _ hk => Nat.le_of_lt hk.1)
        | false =>
          have HQ : Hid ((v.txt.toList == (ByteArray.mk #[41]).toList) = false) := by
            show _ = _
            rw [one_byte]; exact hq
          cases hem : v.txt.toList.isEmpty with
          | true =>
            go_wp2_with first
              | (go_at_call 72; refine (rd_next (w := wr) HRD.out).mono ?_; rintro e w' ⟨rfl, m2, rfl⟩)
              | (go_at_call 72; refine (rd_next (HRD.out.drewN _)).mono ?_; rintro e w' ⟨rfl, m3, rfl⟩)
              | (go_at_call 101; refine (rd_must_no _ (HRD.out.drewN _) HQ.out).mono ?_; rintro e w5 ⟨rfl, hx, hr⟩
                 have hxw : Ext (· = c.rb) wr w5 := ((Ext.refl _ wr).drewN _).trans hx
                 have k5 : w5.heap[w.heap.size]? = some (.cells #[.string s1, pv, .int .i64 0, .bool true, .string f] 117) := (hxw.block _ (block_lt KB.out) (by show ¬ w.heap.size = c.rb; omega)).trans KB.out
                 have k54 := cell_of_block k5 4
                 have f54 := frozen_of_block k5 4
                 have K5 := hide k5
                 have HX5 := hide hxw
                 have HR5 := hide hr
                 clear k5 hx hr hxw)
            go_ret
            have g1 := HFB.out
            have g2 := HLL.out
            rw [HCL.out, rdShut, if_neg (by simpa using hq), if_pos (by simpa using hem)]
            exact dead_end (HE.out.trans HX5.out) hrb htb hnb K5.out HR5.out (by decide) (by simp at g1 g2 ⊢; omega)
          | false =>
            go_wp2_with first
              | (go_at_call 72; refine (rd_next (w := wr) HRD.out).mono ?_; rintro e w' ⟨rfl, m2, rfl⟩)
              | (go_at_call 72; refine (rd_next (HRD.out.drewN _)).mono ?_; rintro e w' ⟨rfl, m3, rfl⟩)
              | (go_at_call 73; refine (rd_fail_live _ (HRD.out.drewN _)).mono ?_; rintro e w5 ⟨rfl, hx, hr⟩
                 have hxw : Ext (· = c.rb) wr w5 := ((Ext.refl _ wr).drewN _).trans hx
                 have k5 : w5.heap[w.heap.size]? = some (.cells #[.string s1, pv, .int .i64 0, .bool true, .string f] 117) := (hxw.block _ (block_lt KB.out) (by show ¬ w.heap.size = c.rb; omega)).trans KB.out
                 have k54 := cell_of_block k5 4
                 have f54 := frozen_of_block k5 4
                 have K5 := hide k5
                 have HX5 := hide hxw
                 have HR5 := hide hr
                 clear k5 hx hr hxw)
              | (go_at_call 101; refine (rd_must_dead _ HR5.out (by decide)).mono ?_; rintro e w' ⟨rfl, m4, rfl⟩)
            go_ret
            have g1 := HFB.out
            have g2 := HLL.out
            rw [HCL.out, rdShut, if_neg (by simpa using hq), if_neg (by intro e; rw [e] at hem; exact absurd hem (by decide))]
            exact dead_end (w5 := w5.drewN m4) ((HE.out.trans HX5.out).drewN m4) hrb htb hnb K5.out (HR5.out.drewN m4) (by decide) (by simp at g1 g2 ⊢; omega)
    · have he0' : (e == 0) = false := by simpa using he0
      have c4 := hrd.c4
      obtain ⟨v, vs, rfl⟩ := hrd.head
      have HRD := hide hrd
      have HRES : Hid (rdTerm c.N (n + 1) d (t :: ts) = .no e p) := by
        rcases hres with hres | ⟨us0, e2, hrow⟩
        · rw [← HR1.out] at hres
          exact rdTerm_noname H.out.names ho (by have := HNE.out; intro e; rw [e] at this; simp at this) hres
        · obtain ⟨hk1, hk3, u', hts, hs1u, hne, hka, hd30⟩ := HK.out us0 e2
          show _ = _
          rw [rdTerm_paren ho hd30 hts hne hka hk1, hrow]; rfl
      have HFS := hide hfs
      have hfi : f.size ≤ 400000 := by have := HL1.out; omega
      clear hrd hfs hres kb
      have k4 := cell_of_block KB.out 4
      have fr4 := frozen_of_block KB.out 4
      by_cases hlt : (j : Int) < k
      all_goals
        cases hq : (v.txt.toList == [41]) with
        | true =>
          go_wp2_with first
            | (go_at_call 72; refine (rd_next HRD.out).mono ?_; rintro e w' ⟨rfl, m2, rfl⟩)
            | (go_at_call 101; refine (rd_must_dead _ (HRD.out.drewN _) he0).mono ?_; rintro e w' ⟨rfl, m3, rfl⟩)
          go_ret
          rw [HRES.out]
          exact dead_end (w5 := wr.drewN (m2 + m3)) (HE.out.drewN _) hrb htb hnb KB.out (HRD.out.drewN _) he0 (by have := HFS.out; omega)
        | false =>
          cases hem : v.txt.toList.isEmpty with
          | true =>
            go_wp2_with first
              | (go_at_call 72; refine (rd_next (w := wr) HRD.out).mono ?_; rintro e w' ⟨rfl, m2, rfl⟩)
              | (go_at_call 72; refine (rd_next (HRD.out.drewN _)).mono ?_; rintro e w' ⟨rfl, m3, rfl⟩)
              | (go_at_call 101; refine (rd_must_dead _ (HRD.out.drewN _) he0).mono ?_; rintro e w' ⟨rfl, m4, rfl⟩)
            go_ret
            rw [HRES.out]
            exact dead_end (w5 := wr.drewN (m2 + m3 + m4)) (HE.out.drewN _) hrb htb hnb KB.out (HRD.out.drewN _) he0 (by have := HFS.out; omega)
          | false =>
            go_wp2_with first
              | (go_at_call 72; refine (rd_next (w := wr) HRD.out).mono ?_; rintro e w' ⟨rfl, m2, rfl⟩)
              | (go_at_call 72; refine (rd_next (HRD.out.drewN _)).mono ?_; rintro e w' ⟨rfl, m3, rfl⟩)
              | (go_at_call 73; refine (rd_fail_dead _ (HRD.out.drewN _) he0).mono ?_; rintro e w' ⟨rfl, rfl⟩)
              | (go_at_call 101; refine (rd_must_dead _ (HRD.out.drewN _) he0).mono ?_; rintro e w' ⟨rfl, m4, rfl⟩)
            go_ret
            rw [HRES.out]
            exact dead_end (w5 := wr.drewN (m2 + m3 + m4)) (HE.out.drewN _) hrb htb hnb KB.out (HRD.out.drewN _) he0 (by have := HFS.out; omega)

end Go.Proofs.YtihpglkehkgioaaGreatDoor

/- The reader of the document's own answer: a term, whatever comes. -/
namespace Go.Proofs.YtihpglkehkgioaaGreatDoor
open Go.RowKit Ar

theorem num_not_name {l : List UInt8} {v : Int} (h : numOf l = some v) : isName l = false := by
  cases hn : isName l with
  | false => rfl
  | true =>
    exfalso
    have hl : l.all letter = true := by
      cases hq : l.all letter with
      | true => rfl
      | false => rw [name_no l hq] at hn; exact absurd hn (by decide)
    cases l with
    | nil => exact absurd hn (by decide)
    | cons c r =>
      simp only [List.all_cons, Bool.and_eq_true] at hl
      have h1 := hl.1
      simp [letter] at h1
      unfold numOf at h
      have hc : ¬ (c :: r).head? = some 45 := by
        intro e
        simp at e
        subst e
        exact absurd h1.1 (by decide)
      have hu : unMinus (c :: r) = c :: r := by rw [unMinus, if_neg hc]
      rw [hu] at h
      rw [if_pos] at h
      · exact absurd h (by simp)
      · refine Or.inr (Or.inl ?_)
        have : digit c = false := by simp [digit]; omega
        simp [this]

theorem term_any (c : Ctx) (n : Nat) : ∀ (w : World) (ts : List Tk) (d pl : Int), ts.length ≤ n → Rd w c ts d 0 pl → Calls Tryz.prog 70 #[.pointer (some ⟨c.rb, 0, none⟩)] w (TermPost w c ts d pl (rdTerm c.N n d ts)) := by
  induction n with
  | zero =>
    intro w ts d pl hn h
    obtain ⟨t, us, rfl⟩ := h.head
    simp at hn
  | succ n ih =>
    intro w ts d pl hn h
    obtain ⟨t, us, rfl⟩ := h.head
    cases ho : (t.txt.toList == [40]) with
    | true => exact term_paren h ho (by simp at hn; omega) ih
    | false =>
      have ho' : ¬ t.txt.toList = [40] := by simpa using ho
      cases hv : numOf t.txt.toList with
      | some v =>
        have hnn := num_not_name hv
        have e : rdTerm c.N (n + 1) d (t :: us) = if v < -1000 ∨ 1000 < v then .no 5 t.pos else .ok (.mk 4 ByteArray.empty v []) us := by
          rw [rdTerm.eq_def]
          simp only
          rw [if_neg ho', if_neg (by rw [hnn]; decide), rdNum, hv]
        rw [e]
        by_cases hg : v < -1000 ∨ 1000 < v
        · rw [if_pos hg]; exact term_num_great h hv hg
        · rw [if_neg hg]; exact term_num_ok h hv (by omega) (by omega)
      | none =>
        have e : rdTerm c.N (n + 1) d (t :: us) = nameRes c.N t us := by
          rw [rdTerm.eq_def]
          simp only
          rw [if_neg ho']
          unfold nameRes
          cases hn : isName t.txt.toList with
          | false =>
            have hne : nameErr c.N false t.txt.toList = 2 := by rw [nameErr, hn, if_pos rfl]
            rw [hne, if_neg (by decide), rdNum, hv, if_neg (by decide)]
          | true =>
            rw [if_pos rfl]
            cases ha : arOf c.N t.txt.toList with
            | none =>
              have hne : nameErr c.N false t.txt.toList = 3 := by rw [nameErr, hn, ha, if_neg (by decide), if_pos (by decide)]
              rw [hne, if_neg (by decide)]
            | some a =>
              have hb := ar_bd h.names ha
              by_cases h3 : a = 0
              · subst h3
                have hne : nameErr c.N false t.txt.toList = 0 := by rw [nameErr, hn, ha, if_neg (by decide), if_neg (by decide), if_neg (by decide)]
                rw [hne]; rfl
              · have h4 : 0 < a := by omega
                have hne : nameErr c.N false t.txt.toList = 4 := by
                  rw [nameErr, hn, ha, if_neg (by decide), Option.getD_some, if_neg (by omega), if_pos (by simp [h4])]
                rw [hne, if_neg (by decide)]
                simp only [if_neg h3]
        rw [e]
        exact term_name h hv ho

end Go.Proofs.YtihpglkehkgioaaGreatDoor

/- The reader of the document's own answer: formulas without brackets, brackets too deep, brackets whose first word cannot stand there. -/
namespace Go.Proofs.YtihpglkehkgioaaGreatDoor
open Go.RowKit Ar

theorem truth_word {l : List UInt8} (h : l = wTrue ∨ l = wFalse) : (l == [40]) = false ∧ (l == [41]) = false ∧ l.isEmpty = false := by
  rcases h with rfl | rfl <;> exact ⟨by decide, by decide, by decide⟩

set_option maxRecDepth 100000 in
set_option maxHeartbeats 400000 in
theorem form_truth {w : World} {c : Ctx} {t : Tk} {ts : List Tk} {d pl : Int} (h : Rd w c (t :: ts) d 0 pl) (ht : t.txt.toList = wTrue ∨ t.txt.toList = wFalse) :
    Calls Tryz.prog 71 #[.pointer (some ⟨c.rb, 0, none⟩)] w (TermPost w c (t :: ts) d pl (.ok (.mk 0 t.txt 0 []) ts)) := by
  obtain ⟨q1, q2, q3⟩ := truth_word ht
  have H := hide h
  have hrb := h.rbs
  clear h
  have hor : (t.txt.toList == [116, 114, 117, 101]) = true ∨ ((t.txt.toList == [116, 114, 117, 101]) = false ∧ (t.txt.toList == [102, 97, 108, 115, 101]) = true) := by
    rcases ht with e | e <;> rw [e]
    · exact Or.inl (by decide)
    · exact Or.inr (by decide)
  clear ht
  rcases hor with hw | ⟨hw1, hw⟩
  all_goals
    go_enter Tryz.func71, Tryz.ntmps71
    go_wp2_with (go_at_call 72; refine (rd_next H.out).mono ?_; rintro e w' ⟨rfl, m, rfl⟩)
    have hx0 : Ext (fun _ => False) w ((w.drewN m).alloc (Obj.cells #[.string t.txt, .slice none 0 0, .int .i64 0, .bool false, .string t.txt] 117)) := ((Ext.refl _ w).drewN m).alloc _
    refine (rd_take_word (H.out.ext hx0 (fun f => f) (fun f => f) (fun f => f)) q1 q2 q3).mono ?_
    rintro e w1 ⟨rfl, hx, hr⟩
    have kb : w1.heap[w.heap.size]? = some (.cells #[.string t.txt, .slice none 0 0, .int .i64 0, .bool false, .string t.txt] 117) :=
      (hx.block _ (block_lt (heap_alloc_new (w.drewN m) _)) (by show ¬ w.heap.size = c.rb; omega)).trans (heap_alloc_new (w.drewN m) _)
    go_wp2_with fail
    go_ret
    have hxa : Ext (· = c.rb) w w1 := (hx0.mono (fun _ _ f => f.elim)).trans hx
    have ht := H.out.ts t (List.mem_cons_self ..)
    refine ⟨w.heap.size, _, _, _, _, t.txt, rfl, Nat.le_refl _, hxa, kb, by simp; omega, hr, ?_⟩
    intro nd ts' e
    injection e with e1 e2
    subst e1
    refine RN.mk (pv := .slice none 0 0) (form := t.txt) (kids := []) kb (Nat.le_refl _) ?_ (World.ownsRow_nil _ _ _ _) (fun g hg => absurd hg (by simp [Value.ownBlock])) (fun i c p h => absurd h (by simp))
    rw [formOf, if_neg (by simp), tokOf, if_neg (by decide)]

set_option maxRecDepth 100000 in
set_option maxHeartbeats 400000 in
/-- A formula must begin with a bracket, and none comes; or one comes that is too deep. -/
theorem form_noopen {w : World} {c : Ctx} {t : Tk} {ts : List Tk} {d pl : Int} (h : Rd w c (t :: ts) d 0 pl) (hw1 : (t.txt.toList == [116, 114, 117, 101]) = false) (hw2 : (t.txt.toList == [102, 97, 108, 115, 101]) = false)
    (hno : (t.txt.toList == [40]) = false ∨ d = 30) :
    Calls Tryz.prog 71 #[.pointer (some ⟨c.rb, 0, none⟩)] w (TermPost w c (t :: ts) d pl (.no (if (t.txt.toList == [40]) = true then 6 else 2) t.pos)) := by
  obtain ⟨e0, he⟩ : ∃ e0 : Int, (if (t.txt.toList == [40]) = true then (6 : Int) else 2) = e0 := ⟨_, rfl⟩
  have he0 : ¬ e0 = 0 := by rw [← he]; split <;> decide
  have he0' : (e0 == 0) = false := by simpa using he0
  have HM : Hid (∀ W : World, Rd W c (t :: ts) d 0 pl → Calls Tryz.prog 101 #[.pointer (some ⟨c.rb, 0, none⟩), .string ⟨#[40]⟩] W fun en w' => en = .returned (.tuple #[]) ∧ Ext (· = c.rb) W w' ∧ Rd w' c (t :: ts) d e0 t.pos) := by
    intro W hW
    rw [← he]
    cases hq : (t.txt.toList == [40]) with
    | true =>
      rcases hno with hno | hno
      · rw [hq] at hno; exact absurd hno (by decide)
      · subst hno; exact rd_must_deep hW hq
    | false => exact rd_must_no _ hW (by rw [one_byte]; exact hq)
  rw [he]
  have H := hide h
  have hrb := h.rbs
  clear h hno he
  go_enter Tryz.func71, Tryz.ntmps71
  go_wp2_with (go_at_call 72; refine (rd_next H.out).mono ?_; rintro e w' ⟨rfl, m, rfl⟩)
  have hx0 : Ext (fun _ => False) w ((w.drewN m).alloc (Obj.cells #[.string t.txt, .slice none 0 0, .int .i64 0, .bool false, .string t.txt] 117)) := ((Ext.refl _ w).drewN m).alloc _
  refine (HM.out _ (H.out.ext hx0 (fun f => f) (fun f => f) (fun f => f))).mono ?_
  rintro e w1 ⟨rfl, hx, hr⟩
  have kb : w1.heap[w.heap.size]? = some (.cells #[.string t.txt, .slice none 0 0, .int .i64 0, .bool false, .string t.txt] 117) :=
    (hx.block _ (block_lt (heap_alloc_new (w.drewN m) _)) (by show ¬ w.heap.size = c.rb; omega)).trans (heap_alloc_new (w.drewN m) _)
  have c4 := hr.c4
  have HR := hide hr
  clear hr
  go_wp2_with fail
  go_ret
  have hxa : Ext (· = c.rb) w w1 := (hx0.mono (fun _ _ f => f.elim)).trans hx
  have ht := H.out.ts t (List.mem_cons_self ..)
  exact ⟨w.heap.size, _, _, _, _, t.txt, rfl, Nat.le_refl _, hxa, kb, by simp; omega, ⟨he0, _, _, HR.out⟩, fun nd ts' e => absurd e (by simp)⟩

end Go.Proofs.YtihpglkehkgioaaGreatDoor
