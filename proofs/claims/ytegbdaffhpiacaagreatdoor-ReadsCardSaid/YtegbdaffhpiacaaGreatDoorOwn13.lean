/- The reader of the document's own answer: formulas that begin with the connective 'and'; The reader of the document's own answer: formulas that begin with the connective 'or'. -/
import Derived.Test.YtegbdaffhpiacaaGreatDoorOwn09
import Derived.Test.YtegbdaffhpiacaaGreatDoorOwn03
import Derived.Deep.LoopGhost
/- The reader of the document's own answer: formulas that begin with the connective 'and'. -/
namespace Go.Proofs.YtegbdaffhpiacaaGreatDoor
open Go.RowKit Ar

set_option maxRecDepth 100000 in
set_option maxHeartbeats 1000000 in
theorem form_and {w : World} {c : Ctx} {t u : Tk} {us0 : List Tk} {d pl : Int} {n : Nat} (h : Rd w c (t :: u :: us0) d 0 pl) (ho : (t.txt.toList == [40]) = true) (hd : d < 30) (hu : u.txt.toList = [97, 110, 100]) (hn : us0.length < n)
    (ih : ∀ (w : World) (ts : List Tk) (d pl : Int), ts.length ≤ n → Rd w c ts d 0 pl → Calls Tryz.prog 160 #[.pointer (some ⟨c.rb, 0, none⟩)] w (TermPost w c ts d pl (rdForm c.N n d ts))) :
    Calls Tryz.prog 160 #[.pointer (some ⟨c.rb, 0, none⟩)] w (TermPost w c (t :: u :: us0) d pl (rdCloses 2 1 u.txt (rdUpTo n (rdForm c.N n (d + 1)) us0))) := by
  have a1 : (t.txt.toList == [116, 114, 117, 101]) = false := by rw [beq_iff_eq.1 ho]; decide
  have a2 : (t.txt.toList == [102, 97, 108, 115, 101]) = false := by rw [beq_iff_eq.1 ho]; decide
  have b0 : (u.txt.toList == [61]) = false := by rw [hu]; decide
  have b1 : (u.txt.toList == [60]) = false := by rw [hu]; decide
  have b2 : (u.txt.toList == [60, 61]) = false := by rw [hu]; decide
  have b3 : (u.txt.toList == [108, 101]) = false := by rw [hu]; decide
  have b4 : (u.txt.toList == [110, 111, 116]) = false := by rw [hu]; decide
  have b5 : (u.txt.toList == [61, 62]) = false := by rw [hu]; decide
  have b6 : (u.txt.toList == [105, 102, 102]) = false := by rw [hu]; decide
  have b7 : (u.txt.toList == [97, 110, 100]) = true := by rw [hu]; decide
  have q1 : (u.txt.toList == [40]) = false := by rw [hu]; decide
  have q2 : (u.txt.toList == [41]) = false := by rw [hu]; decide
  have q3 : u.txt.toList.isEmpty = false := by rw [hu]; decide
  have IH := hide ih
  have H := hide h
  have hrb := h.rbs
  have htb := h.tbs
  have hnb := h.nbs
  have hd0 := h.dlo
  have HTS := hide h.ts
  have hsu : u.txt.size ≤ 600 := h.ts u (by simp)
  have hL1 : us0.length ≤ 599 := by have := h.len; simp at this; omega
  clear h ih hu
  obtain ⟨i0, hi, hz0, hz1, hz2⟩ := info_parts info78
  have HI : Hid (Tryz.prog.info? 172 = some i0 ∧ i0.zero = some (.pointer none) ∧ i0.size = 1 ∧ i0.bytes = 8) := ⟨hi, hz0, hz1, hz2⟩
  clear hi hz0 hz1 hz2
  go_enter Tryz.func160, Tryz.ntmps160
  go_wp2_with (go_at_call 161; refine (rd_next H.out).mono ?_; rintro e w' ⟨rfl, m, rfl⟩)
  have hx0 : Ext (fun _ => False) w ((w.drewN m).alloc (Obj.cells #[.string t.txt, .slice none 0 0, .int .i64 0, .bool false, .string t.txt] 235)) := ((Ext.refl _ w).drewN m).alloc _
  refine (rd_must_open (H.out.ext hx0 (fun f => f) (fun f => f) (fun f => f)) ho hd).mono ?_
  rintro e w1 ⟨rfl, hx1, hr1⟩
  have kb1 : w1.heap[w.heap.size]? = some (.cells #[.string t.txt, .slice none 0 0, .int .i64 0, .bool false, .string t.txt] 235) :=
    (hx1.block _ (block_lt (heap_alloc_new (w.drewN m) _)) (by show ¬ w.heap.size = c.rb; omega)).trans (heap_alloc_new (w.drewN m) _)
  have k10 := cell_of_block kb1 0
  have f10 := frozen_of_block kb1 0
  have k14 := cell_of_block kb1 4
  have f14 := frozen_of_block kb1 4
  have c4 := hr1.c4
  have HX1 : Hid (Ext (· = c.rb) w w1) := (hx0.mono (fun _ _ f => f.elim)).trans hx1
  have KB1 := hide kb1
  have HR1 := hide hr1
  clear hx0 hx1 kb1 hr1
  go_wp2_with (go_at_call 161; refine (rd_next HR1.out).mono ?_; rintro e w' ⟨rfl, m1, rfl⟩)
  have hxs : Ext (· = w.heap.size) w1 (((w1.drewN m1).setCell ⟨w.heap.size, 0, none⟩ (.string u.txt)).setCell ⟨w.heap.size, 4, none⟩ (.string (⟨#[40]⟩ ++ u.txt))) := (((Ext.refl (· = w.heap.size) w1).drewN m1).setCell (p := ⟨w.heap.size, 0, none⟩) (fun _ => rfl) _).setCell (p := ⟨w.heap.size, 4, none⟩) (fun _ => rfl) _
  refine (rd_take_word (HR1.out.ext hxs (by show ¬ c.rb = w.heap.size; omega) (by show ¬ c.tb = w.heap.size; omega) (by show ¬ c.nb = w.heap.size; omega)) q1 q2 q3).mono ?_
  rintro e w2 ⟨rfl, hx2, hr2⟩
  have kbs : (((w1.drewN m1).setCell ⟨w.heap.size, 0, none⟩ (.string u.txt)).setCell ⟨w.heap.size, 4, none⟩ (.string (⟨#[40]⟩ ++ u.txt))).heap[w.heap.size]? = some (.cells #[.string u.txt, .slice none 0 0, .int .i64 0, .bool false, .string (⟨#[40]⟩ ++ u.txt)] 235) := block_setCell (block_setCell (w := w1.drewN m1) KB1.out 0 _) 4 _
  have kb2 : w2.heap[w.heap.size]? = some (.cells #[.string u.txt, .slice none 0 0, .int .i64 0, .bool false, .string (⟨#[40]⟩ ++ u.txt)] 235) :=
    (hx2.block _ (block_lt kbs) (by show ¬ w.heap.size = c.rb; omega)).trans kbs
  have HX2 : Hid (Ext (· = c.rb) w w2) := (HX1.out.trans' hxs (fun i hi e => by omega)).trans hx2
  have KB2 := hide kb2
  have HR2 := hide hr2
  have HF0 : Hid ((ByteArray.mk #[40] ++ u.txt).toList = 40 :: (u.txt.toList ++ [])) := by
    show _ = _
    rw [toList_app, one_byte]; simp
  clear k10 f10 k14 f14 c4 hxs hx2 hr2 kbs kb2 a1 a2 b0 b1 b2 b3 b4 b5 b6 b7
  go_wp2_with fail
  go_loopg [8] 1000 (fun gk _ wr => ∃ (j : Nat) (a : Option Addr) (cap : Nat) (f : ByteArray), gk + j = 1000 ∧ Ext (· = c.rb) w wr ∧ wr.heap[w.heap.size]? = some (.cells #[.string u.txt, .slice a j cap, .int .i64 0, .bool false, .string f] 235) ∧
      ((∃ us ps kids, TLive w c (d + 1) pl (rdForm c.N n (d + 1)) (40 :: u.txt.toList) us0 wr j (.slice a j cap) f us ps kids ∧ rdUpTo n (rdForm c.N n (d + 1)) us0 = rdPre ps (rdUpTo (n - j) (rdForm c.N n (d + 1)) us)) ∨
       (∃ (e : Int) (p : Nat), (¬ e = 0) ∧ (∃ ts d', Rd wr c ts d' e p) ∧ f.size + 3 ≤ 603 * (us0.length + 2) ∧ rdUpTo n (rdForm c.N n (d + 1)) us0 = .no e p)))
  case atStart =>
    exact ⟨0, none, 0, _, rfl, HX2.out, KB2.out, Or.inl ⟨us0, [], [], ⟨rfl, HR2.out, HF0.out, World.ownsRow_nil _ _ _ _, fun g hg => absurd hg (by simp [Value.ownBlock]), fun i b p hk => absurd hk (by simp)⟩, by rw [pre_nil]; rfl⟩⟩
  case round =>
    obtain ⟨j, a, cap, f, hgk, hE, kb, hst⟩ := hrel
    have KB := hide kb
    have HE := hide hE
    clear HX2 KB2 HR2 HX1 KB1 HR1 hE
    have k1 := cell_of_block kb 1
    have k4 := cell_of_block kb 4
    have fr4 := frozen_of_block kb 4
    clear kb
    rcases hst with ⟨us, ps, kids, ⟨hrow, hrd, hf, hown, hpv, hkids⟩, hex⟩ | ⟨e, p, he0, ⟨tsx, dx, hrd⟩, hfs, hres⟩
    · obtain ⟨v, vs, rfl⟩ := hrd.head
      have c4 := hrd.c4
      have hb0 : TS us0 := fun x hx => HTS.out x (List.mem_cons_of_mem _ (List.mem_cons_of_mem _ hx))
      have hall : ∀ g ∈ List.replicate j (rdForm c.N n (d + 1)), Fits g := fun g hg => by rw [(List.mem_replicate.1 hg).2]; exact form_fits c.N n (d + 1)
      have hfit := row_fits _ hall us0 ps (v :: vs) hb0 hrow
      have hsh := row_short _ hall us0 ps (v :: vs) hb0 hrow
      rw [List.length_replicate] at hsh
      have hsz := size_of hf
      have hs1l := len_toList u.txt
      have hfb : f.size + 603 * (v :: vs).length ≤ 601 + 603 * us0.length := by
        rw [hsz]; simp at hfit ⊢; omega
      have hplen : ps.length = j := by rw [row_len _ _ _ _ hrow]; simp
      have hvn : (v :: vs).length ≤ n := by omega
      have hjj : (j : Int) ≤ 599 := by omega
      have hfi : f.size ≤ 400000 := by omega
      have HROW := hide hrow
      have HRD := hide hrd
      have HF := hide hf
      have HOWN := hide hown
      have HPV := hide hpv
      have HKIDS := hide hkids
      have HFB := hide hfb
      have HPL := hide hplen
      have HVN := hide hvn
      have HEX := hide hex
      have HSH := hide hsh
      clear hrow hrd hf hown hpv hkids hfb hplen hvn hex hall hfit hsz hb0 hsh hs1l
      have hnj : n - j = (n - j - 1) + 1 := by have := HSH.out; simp at this; omega
      have HNJ := hide hnj
      clear hnj
      by_cases hlt : (v.txt.toList == [41]) = false
      · go_wp2_with (go_at_call 161; refine (rd_next HRD.out).mono ?_; rintro e w' ⟨rfl, m2, rfl⟩)
        refine (IH.out _ (v :: vs) (d + 1) pl HVN.out (HRD.out.drewN m2)).mono ?_
        rintro e wt ⟨b, x0, x1, x2, x3, f', rfl, hb, hx, bb, hfs', hsd, hrn⟩
        have hxt : Ext (· = c.rb) wr wt := ((Ext.refl _ wr).drewN m2).trans hx
        have kbt : wt.heap[w.heap.size]? = some (.cells #[.string u.txt, .slice a j cap, .int .i64 0, .bool false, .string f] 235) := (hxt.block _ (block_lt KB.out) (by show ¬ w.heap.size = c.rb; omega)).trans KB.out
        have t1 := cell_of_block kbt 1
        have HOT : Hid (wt.ownsRow 0 172 1 (.slice a j cap) j (kids.map kp)) := own_ext HOWN.out hxt (fun g hg e => by have := HPV.out g hg; omega)
        have HX := hide hx
        have BB := hide bb
        have HSD := hide hsd
        have HRN := hide hrn
        have HB := hide hb
        have HFS := hide hfs'
        have hf'i : f'.size ≤ 400000 := by have h2 := HFS.out; have h3 := HFB.out; omega
        clear hxt kbt hx bb hsd hrn hb hfs' k1 k4 fr4
        obtain ⟨hi, hz0, hz1, hz2⟩ := HI.out
        go_wp2_with (at_builtin; refine wpList_append_own_at _ rfl _ _ 171 rfl 0 172 i0 (.pointer none) 1 8 Tryz.underlying171 hi hz0 hz1 hz2 rfl (by decide) _ _ _ rfl (HOT.out.alloc _) ⟨wt.heap.size, 0, none⟩ 1 1 [.pointer (some ⟨b, 0, none⟩)] rfl rfl ?c1 ?c2 ?c3 ?c4 ?c5 ?_)
        case c1 =>
          intro q u2 hq2
          match q, hq2 with
          | 0, hq2 => simp at hq2; subst hq2; simp [Addr.add]
        case c2 => intro u2 hu2; simp at hu2; subst hu2; rfl
        case c3 => unfold maxLen; omega
        case c4 => omega
        case c5 => omega
        intro v' wa hown' hgrow _ hat
        obtain ⟨ka, kab, hbx, ⟨g, cap', hv', hgx, hgb⟩, hall⟩ := part_step (hd := 40 :: u.txt.toList) HE.out hrb htb hnb HOWN.out HPV.out HKIDS.out HPL.out HF.out KB.out ((Ext.refl _ wr).drewN m2) HB.out HX.out BB.out HSD.out HRN.out _ hown' hgrow hat
        have HALL := hide hall
        have a1 := cell_of_block ka 1
        have a4 := cell_of_block ka 4
        have fa1 := frozen_of_block ka 1
        have fa4 := frozen_of_block ka 4
        have b4 := cell_of_block kab 4
        have KA := hide ka
        clear hall ka kab hown' hgrow hat hi hz0 hz1 hz2 t1
        subst hv'
        go_wp2_with fail
        go_region
        go_wp2_with fail
        go_roundg (gk - 1)
        case measure => omega
        case rel =>
          have hW : Ext (· = w.heap.size) wa (((wa.setCell ⟨w.heap.size, 1, none⟩ (.slice (some ⟨g, 0, none⟩) (j + 1) cap')).setCell ⟨w.heap.size, 4, none⟩ (.string (f ++ ⟨#[32]⟩ ++ f'))).drew) :=
            (((Ext.refl (· = w.heap.size) wa).setCell (p := ⟨w.heap.size, 1, none⟩) (fun _ => rfl) _).setCell (p := ⟨w.heap.size, 4, none⟩) (fun _ => rfl) _).drew
          have kW := block_setCell (block_setCell KA.out 1 (.slice (some ⟨g, 0, none⟩) (j + 1) cap')) 4 (.string (f ++ ⟨#[32]⟩ ++ f'))
          obtain ⟨q1, q2, q3, q4, q5⟩ := HALL.out _ hW kW
          refine ⟨j + 1, _, _, _, by omega, q1, kW, ?_⟩
          cases hrt : rdForm c.N n (d + 1) (v :: vs) with
          | ok nd vs' =>
            rw [hrt] at q2
            obtain ⟨q6, q7⟩ := q5 nd vs' hrt
            exact Or.inl ⟨vs', ps ++ [nd], kids ++ [b], ⟨row_snoc_ok HROW.out hrt, q2, q6, q4, q3, q7⟩, by rw [HEX.out, HNJ.out, upTo_step (by simpa using hlt) hrt]; rfl⟩
          | no e p =>
            rw [hrt] at q2
            obtain ⟨h0, ts', d', hr⟩ := q2
            refine Or.inr ⟨e, p, h0, ⟨ts', d', hr⟩, ?_, by rw [HEX.out, HNJ.out]; exact upTo_no (by simpa using hlt) hrt⟩
            have g1 := HFS.out
            have g2 := HFB.out
            simp only [ByteArray.size_append']
            have g4 : (ByteArray.mk #[32]).size = 1 := rfl
            omega
      · cases hq : (v.txt.toList == [41]) with
        | true =>
          have hcl : rdUpTo n (rdForm c.N n (d + 1)) us0 = .ok ps (v :: vs) := by rw [HEX.out, HNJ.out]; exact upTo_end (by simpa using hq)
          have HCL := hide hcl
          clear hcl
          go_wp2_with first
            | (go_at_call 161; refine (rd_next HRD.out).mono ?_; rintro e w' ⟨rfl, m2, rfl⟩)
            | (go_at_call 199; refine (rd_must_close (HRD.out.drewN m2) hq (by omega)).mono ?_; rintro e w5 ⟨rfl, hx, hr⟩
               have hxw : Ext (· = c.rb) wr w5 := ((Ext.refl _ wr).drewN m2).trans hx
               have k5 : w5.heap[w.heap.size]? = some (.cells #[.string u.txt, .slice a j cap, .int .i64 0, .bool false, .string f] 235) := (hxw.block _ (block_lt KB.out) (by show ¬ w.heap.size = c.rb; omega)).trans KB.out
               have k54 := cell_of_block k5 4
               have f54 := frozen_of_block k5 4
               have K5 := hide k5
               have HX5 := hide hxw
               have HR5 := hide hr
               clear k5 hx hr hxw)
          go_ret
          have hxw := HX5.out
          have hxe : Ext (· = w.heap.size) w5 (w5.setCell ⟨w.heap.size, 4, none⟩ (.string (f ++ ⟨#[41]⟩))) := (Ext.refl (· = w.heap.size) w5).setCell (p := ⟨w.heap.size, 4, none⟩) (fun _ => rfl) _
          have kW := block_setCell K5.out 4 (.string (f ++ ⟨#[41]⟩))
          have hr := HR5.out.ext hxe (by show ¬ c.rb = w.heap.size; omega) (by show ¬ c.tb = w.heap.size; omega) (by show ¬ c.nb = w.heap.size; omega)
          rw [show d + 1 - 1 = d from by omega] at hr
          rw [HCL.out, rdCloses, rdShut, if_pos (by simpa using hq)]
          have g1 := HFB.out
          have g4 : (ByteArray.mk #[41]).size = 1 := rfl
          refine ⟨w.heap.size, _, _, _, _, _, rfl, Nat.le_refl _, (HE.out.trans hxw).trans' hxe (fun i hi e => by omega), kW, ?_, hr, ?_⟩
          · simp only [ByteArray.size_append']; simp at g1 ⊢; omega
          · intro nd ts' e
            injection e with e1 e2
            subst e1
            refine RN.mk (pv := .slice a j cap) (form := f ++ ⟨#[41]⟩) (kids := kids) ?_ (Nat.le_refl _) ?_ ?_ (fun g hg => Nat.le_of_lt (HPV.out g hg)) ?_
            · exact kW
            · rw [formOf, if_pos (Or.inl rfl), tokOf, if_neg (by decide), toList_app, HF.out, one_byte]; simp
            · rw [rps, if_neg (by decide), HPL.out]
              exact own_ext (own_ext HOWN.out hxw (fun g hg e => by have := HPV.out g hg; omega)) hxe (fun g hg e => by have := HPV.out g hg; omega)
            · intro i q p hq1 hq2
              rw [rps, if_neg (by decide)] at hq2
              have h1 := HKIDS.out i q p hq1 hq2
              have h2 := h1.ext hxw (fun k _ hk e => by have := hk.1; omega)
              have h3 := h2.ext hxe (fun k _ hk e => by have := hk.1; omega)
              exact h3.mono (fun k _ hk => Nat.le_of_lt hk.1)
        | false => exact absurd hq hlt
    · have he0' : (e == 0) = false := by simpa using he0
      have c4 := hrd.c4
      have HRD := hide hrd
      have HRES := hide hres
      have HFS := hide hfs
      have hfi : f.size ≤ 400000 := by omega
      clear hrd hfs hres
      go_wp2_with (go_at_call 199; refine (rd_must_dead _ HRD.out he0).mono ?_; rintro e w' ⟨rfl, m3, rfl⟩)
      go_ret
      rw [HRES.out]
      exact dead_end (w5 := wr.drewN m3) (HE.out.drewN _) hrb htb hnb KB.out (HRD.out.drewN _) he0 (by have := HFS.out; simp; omega)

end Go.Proofs.YtegbdaffhpiacaaGreatDoor

/- The reader of the document's own answer: formulas that begin with the connective 'or'. -/
namespace Go.Proofs.YtegbdaffhpiacaaGreatDoor
open Go.RowKit Ar

set_option maxRecDepth 100000 in
set_option maxHeartbeats 1000000 in
theorem form_or {w : World} {c : Ctx} {t u : Tk} {us0 : List Tk} {d pl : Int} {n : Nat} (h : Rd w c (t :: u :: us0) d 0 pl) (ho : (t.txt.toList == [40]) = true) (hd : d < 30) (hu : u.txt.toList = [111, 114]) (hn : us0.length < n)
    (ih : ∀ (w : World) (ts : List Tk) (d pl : Int), ts.length ≤ n → Rd w c ts d 0 pl → Calls Tryz.prog 160 #[.pointer (some ⟨c.rb, 0, none⟩)] w (TermPost w c ts d pl (rdForm c.N n d ts))) :
    Calls Tryz.prog 160 #[.pointer (some ⟨c.rb, 0, none⟩)] w (TermPost w c (t :: u :: us0) d pl (rdCloses 2 1 u.txt (rdUpTo n (rdForm c.N n (d + 1)) us0))) := by
  have a1 : (t.txt.toList == [116, 114, 117, 101]) = false := by rw [beq_iff_eq.1 ho]; decide
  have a2 : (t.txt.toList == [102, 97, 108, 115, 101]) = false := by rw [beq_iff_eq.1 ho]; decide
  have b0 : (u.txt.toList == [61]) = false := by rw [hu]; decide
  have b1 : (u.txt.toList == [60]) = false := by rw [hu]; decide
  have b2 : (u.txt.toList == [60, 61]) = false := by rw [hu]; decide
  have b3 : (u.txt.toList == [108, 101]) = false := by rw [hu]; decide
  have b4 : (u.txt.toList == [110, 111, 116]) = false := by rw [hu]; decide
  have b5 : (u.txt.toList == [61, 62]) = false := by rw [hu]; decide
  have b6 : (u.txt.toList == [105, 102, 102]) = false := by rw [hu]; decide
  have b7 : (u.txt.toList == [97, 110, 100]) = false := by rw [hu]; decide
  have b8 : (u.txt.toList == [111, 114]) = true := by rw [hu]; decide
  have q1 : (u.txt.toList == [40]) = false := by rw [hu]; decide
  have q2 : (u.txt.toList == [41]) = false := by rw [hu]; decide
  have q3 : u.txt.toList.isEmpty = false := by rw [hu]; decide
  have IH := hide ih
  have H := hide h
  have hrb := h.rbs
  have htb := h.tbs
  have hnb := h.nbs
  have hd0 := h.dlo
  have HTS := hide h.ts
  have hsu : u.txt.size ≤ 600 := h.ts u (by simp)
  have hL1 : us0.length ≤ 599 := by have := h.len; simp at this; omega
  clear h ih hu
  obtain ⟨i0, hi, hz0, hz1, hz2⟩ := info_parts info78
  have HI : Hid (Tryz.prog.info? 172 = some i0 ∧ i0.zero = some (.pointer none) ∧ i0.size = 1 ∧ i0.bytes = 8) := ⟨hi, hz0, hz1, hz2⟩
  clear hi hz0 hz1 hz2
  go_enter Tryz.func160, Tryz.ntmps160
  go_wp2_with (go_at_call 161; refine (rd_next H.out).mono ?_; rintro e w' ⟨rfl, m, rfl⟩)
  have hx0 : Ext (fun _ => False) w ((w.drewN m).alloc (Obj.cells #[.string t.txt, .slice none 0 0, .int .i64 0, .bool false, .string t.txt] 235)) := ((Ext.refl _ w).drewN m).alloc _
  refine (rd_must_open (H.out.ext hx0 (fun f => f) (fun f => f) (fun f => f)) ho hd).mono ?_
  rintro e w1 ⟨rfl, hx1, hr1⟩
  have kb1 : w1.heap[w.heap.size]? = some (.cells #[.string t.txt, .slice none 0 0, .int .i64 0, .bool false, .string t.txt] 235) :=
    (hx1.block _ (block_lt (heap_alloc_new (w.drewN m) _)) (by show ¬ w.heap.size = c.rb; omega)).trans (heap_alloc_new (w.drewN m) _)
  have k10 := cell_of_block kb1 0
  have f10 := frozen_of_block kb1 0
  have k14 := cell_of_block kb1 4
  have f14 := frozen_of_block kb1 4
  have c4 := hr1.c4
  have HX1 : Hid (Ext (· = c.rb) w w1) := (hx0.mono (fun _ _ f => f.elim)).trans hx1
  have KB1 := hide kb1
  have HR1 := hide hr1
  clear hx0 hx1 kb1 hr1
  go_wp2_with (go_at_call 161; refine (rd_next HR1.out).mono ?_; rintro e w' ⟨rfl, m1, rfl⟩)
  have hxs : Ext (· = w.heap.size) w1 (((w1.drewN m1).setCell ⟨w.heap.size, 0, none⟩ (.string u.txt)).setCell ⟨w.heap.size, 4, none⟩ (.string (⟨#[40]⟩ ++ u.txt))) := (((Ext.refl (· = w.heap.size) w1).drewN m1).setCell (p := ⟨w.heap.size, 0, none⟩) (fun _ => rfl) _).setCell (p := ⟨w.heap.size, 4, none⟩) (fun _ => rfl) _
  refine (rd_take_word (HR1.out.ext hxs (by show ¬ c.rb = w.heap.size; omega) (by show ¬ c.tb = w.heap.size; omega) (by show ¬ c.nb = w.heap.size; omega)) q1 q2 q3).mono ?_
  rintro e w2 ⟨rfl, hx2, hr2⟩
  have kbs : (((w1.drewN m1).setCell ⟨w.heap.size, 0, none⟩ (.string u.txt)).setCell ⟨w.heap.size, 4, none⟩ (.string (⟨#[40]⟩ ++ u.txt))).heap[w.heap.size]? = some (.cells #[.string u.txt, .slice none 0 0, .int .i64 0, .bool false, .string (⟨#[40]⟩ ++ u.txt)] 235) := block_setCell (block_setCell (w := w1.drewN m1) KB1.out 0 _) 4 _
  have kb2 : w2.heap[w.heap.size]? = some (.cells #[.string u.txt, .slice none 0 0, .int .i64 0, .bool false, .string (⟨#[40]⟩ ++ u.txt)] 235) :=
    (hx2.block _ (block_lt kbs) (by show ¬ w.heap.size = c.rb; omega)).trans kbs
  have HX2 : Hid (Ext (· = c.rb) w w2) := (HX1.out.trans' hxs (fun i hi e => by omega)).trans hx2
  have KB2 := hide kb2
  have HR2 := hide hr2
  have HF0 : Hid ((ByteArray.mk #[40] ++ u.txt).toList = 40 :: (u.txt.toList ++ [])) := by
    show _ = _
    rw [toList_app, one_byte]; simp
  clear k10 f10 k14 f14 c4 hxs hx2 hr2 kbs kb2 a1 a2 b0 b1 b2 b3 b4 b5 b6 b7 b8
  go_wp2_with fail
  go_loopg [8] 1000 (fun gk _ wr => ∃ (j : Nat) (a : Option Addr) (cap : Nat) (f : ByteArray), gk + j = 1000 ∧ Ext (· = c.rb) w wr ∧ wr.heap[w.heap.size]? = some (.cells #[.string u.txt, .slice a j cap, .int .i64 0, .bool false, .string f] 235) ∧
      ((∃ us ps kids, TLive w c (d + 1) pl (rdForm c.N n (d + 1)) (40 :: u.txt.toList) us0 wr j (.slice a j cap) f us ps kids ∧ rdUpTo n (rdForm c.N n (d + 1)) us0 = rdPre ps (rdUpTo (n - j) (rdForm c.N n (d + 1)) us)) ∨
       (∃ (e : Int) (p : Nat), (¬ e = 0) ∧ (∃ ts d', Rd wr c ts d' e p) ∧ f.size + 3 ≤ 603 * (us0.length + 2) ∧ rdUpTo n (rdForm c.N n (d + 1)) us0 = .no e p)))
  case atStart =>
    exact ⟨0, none, 0, _, rfl, HX2.out, KB2.out, Or.inl ⟨us0, [], [], ⟨rfl, HR2.out, HF0.out, World.ownsRow_nil _ _ _ _, fun g hg => absurd hg (by simp [Value.ownBlock]), fun i b p hk => absurd hk (by simp)⟩, by rw [pre_nil]; rfl⟩⟩
  case round =>
    obtain ⟨j, a, cap, f, hgk, hE, kb, hst⟩ := hrel
    have KB := hide kb
    have HE := hide hE
    clear HX2 KB2 HR2 HX1 KB1 HR1 hE
    have k1 := cell_of_block kb 1
    have k4 := cell_of_block kb 4
    have fr4 := frozen_of_block kb 4
    clear kb
    rcases hst with ⟨us, ps, kids, ⟨hrow, hrd, hf, hown, hpv, hkids⟩, hex⟩ | ⟨e, p, he0, ⟨tsx, dx, hrd⟩, hfs, hres⟩
    · obtain ⟨v, vs, rfl⟩ := hrd.head
      have c4 := hrd.c4
      have hb0 : TS us0 := fun x hx => HTS.out x (List.mem_cons_of_mem _ (List.mem_cons_of_mem _ hx))
      have hall : ∀ g ∈ List.replicate j (rdForm c.N n (d + 1)), Fits g := fun g hg => by rw [(List.mem_replicate.1 hg).2]; exact form_fits c.N n (d + 1)
      have hfit := row_fits _ hall us0 ps (v :: vs) hb0 hrow
      have hsh := row_short _ hall us0 ps (v :: vs) hb0 hrow
      rw [List.length_replicate] at hsh
      have hsz := size_of hf
      have hs1l := len_toList u.txt
      have hfb : f.size + 603 * (v :: vs).length ≤ 601 + 603 * us0.length := by
        rw [hsz]; simp at hfit ⊢; omega
      have hplen : ps.length = j := by rw [row_len _ _ _ _ hrow]; simp
      have hvn : (v :: vs).length ≤ n := by omega
      have hjj : (j : Int) ≤ 599 := by omega
      have hfi : f.size ≤ 400000 := by omega
      have HROW := hide hrow
      have HRD := hide hrd
      have HF := hide hf
      have HOWN := hide hown
      have HPV := hide hpv
      have HKIDS := hide hkids
      have HFB := hide hfb
      have HPL := hide hplen
      have HVN := hide hvn
      have HEX := hide hex
      have HSH := hide hsh
      clear hrow hrd hf hown hpv hkids hfb hplen hvn hex hall hfit hsz hb0 hsh hs1l
      have hnj : n - j = (n - j - 1) + 1 := by have := HSH.out; simp at this; omega
      have HNJ := hide hnj
      clear hnj
      by_cases hlt : (v.txt.toList == [41]) = false
      · go_wp2_with (go_at_call 161; refine (rd_next HRD.out).mono ?_; rintro e w' ⟨rfl, m2, rfl⟩)
        refine (IH.out _ (v :: vs) (d + 1) pl HVN.out (HRD.out.drewN m2)).mono ?_
        rintro e wt ⟨b, x0, x1, x2, x3, f', rfl, hb, hx, bb, hfs', hsd, hrn⟩
        have hxt : Ext (· = c.rb) wr wt := ((Ext.refl _ wr).drewN m2).trans hx
        have kbt : wt.heap[w.heap.size]? = some (.cells #[.string u.txt, .slice a j cap, .int .i64 0, .bool false, .string f] 235) := (hxt.block _ (block_lt KB.out) (by show ¬ w.heap.size = c.rb; omega)).trans KB.out
        have t1 := cell_of_block kbt 1
        have HOT : Hid (wt.ownsRow 0 172 1 (.slice a j cap) j (kids.map kp)) := own_ext HOWN.out hxt (fun g hg e => by have := HPV.out g hg; omega)
        have HX := hide hx
        have BB := hide bb
        have HSD := hide hsd
        have HRN := hide hrn
        have HB := hide hb
        have HFS := hide hfs'
        have hf'i : f'.size ≤ 400000 := by have h2 := HFS.out; have h3 := HFB.out; omega
        clear hxt kbt hx bb hsd hrn hb hfs' k1 k4 fr4
        obtain ⟨hi, hz0, hz1, hz2⟩ := HI.out
        go_wp2_with (at_builtin; refine wpList_append_own_at _ rfl _ _ 171 rfl 0 172 i0 (.pointer none) 1 8 Tryz.underlying171 hi hz0 hz1 hz2 rfl (by decide) _ _ _ rfl (HOT.out.alloc _) ⟨wt.heap.size, 0, none⟩ 1 1 [.pointer (some ⟨b, 0, none⟩)] rfl rfl ?c1 ?c2 ?c3 ?c4 ?c5 ?_)
        case c1 =>
          intro q u2 hq2
          match q, hq2 with
          | 0, hq2 => simp at hq2; subst hq2; simp [Addr.add]
        case c2 => intro u2 hu2; simp at hu2; subst hu2; rfl
        case c3 => unfold maxLen; omega
        case c4 => omega
        case c5 => omega
        intro v' wa hown' hgrow _ hat
        obtain ⟨ka, kab, hbx, ⟨g, cap', hv', hgx, hgb⟩, hall⟩ := part_step (hd := 40 :: u.txt.toList) HE.out hrb htb hnb HOWN.out HPV.out HKIDS.out HPL.out HF.out KB.out ((Ext.refl _ wr).drewN m2) HB.out HX.out BB.out HSD.out HRN.out _ hown' hgrow hat
        have HALL := hide hall
        have a1 := cell_of_block ka 1
        have a4 := cell_of_block ka 4
        have fa1 := frozen_of_block ka 1
        have fa4 := frozen_of_block ka 4
        have b4 := cell_of_block kab 4
        have KA := hide ka
        clear hall ka kab hown' hgrow hat hi hz0 hz1 hz2 t1
        subst hv'
        go_wp2_with fail
        go_region
        go_wp2_with fail
        go_roundg (gk - 1)
        case measure => omega
        case rel =>
          have hW : Ext (· = w.heap.size) wa (((wa.setCell ⟨w.heap.size, 1, none⟩ (.slice (some ⟨g, 0, none⟩) (j + 1) cap')).setCell ⟨w.heap.size, 4, none⟩ (.string (f ++ ⟨#[32]⟩ ++ f'))).drew) :=
            (((Ext.refl (· = w.heap.size) wa).setCell (p := ⟨w.heap.size, 1, none⟩) (fun _ => rfl) _).setCell (p := ⟨w.heap.size, 4, none⟩) (fun _ => rfl) _).drew
          have kW := block_setCell (block_setCell KA.out 1 (.slice (some ⟨g, 0, none⟩) (j + 1) cap')) 4 (.string (f ++ ⟨#[32]⟩ ++ f'))
          obtain ⟨q1, q2, q3, q4, q5⟩ := HALL.out _ hW kW
          refine ⟨j + 1, _, _, _, by omega, q1, kW, ?_⟩
          cases hrt : rdForm c.N n (d + 1) (v :: vs) with
          | ok nd vs' =>
            rw [hrt] at q2
            obtain ⟨q6, q7⟩ := q5 nd vs' hrt
            exact Or.inl ⟨vs', ps ++ [nd], kids ++ [b], ⟨row_snoc_ok HROW.out hrt, q2, q6, q4, q3, q7⟩, by rw [HEX.out, HNJ.out, upTo_step (by simpa using hlt) hrt]; rfl⟩
          | no e p =>
            rw [hrt] at q2
            obtain ⟨h0, ts', d', hr⟩ := q2
            refine Or.inr ⟨e, p, h0, ⟨ts', d', hr⟩, ?_, by rw [HEX.out, HNJ.out]; exact upTo_no (by simpa using hlt) hrt⟩
            have g1 := HFS.out
            have g2 := HFB.out
            simp only [ByteArray.size_append']
            have g4 : (ByteArray.mk #[32]).size = 1 := rfl
            omega
      · cases hq : (v.txt.toList == [41]) with
        | true =>
          have hcl : rdUpTo n (rdForm c.N n (d + 1)) us0 = .ok ps (v :: vs) := by rw [HEX.out, HNJ.out]; exact upTo_end (by simpa using hq)
          have HCL := hide hcl
          clear hcl
          go_wp2_with first
            | (go_at_call 161; refine (rd_next HRD.out).mono ?_; rintro e w' ⟨rfl, m2, rfl⟩)
            | (go_at_call 199; refine (rd_must_close (HRD.out.drewN m2) hq (by omega)).mono ?_; rintro e w5 ⟨rfl, hx, hr⟩
               have hxw : Ext (· = c.rb) wr w5 := ((Ext.refl _ wr).drewN m2).trans hx
               have k5 : w5.heap[w.heap.size]? = some (.cells #[.string u.txt, .slice a j cap, .int .i64 0, .bool false, .string f] 235) := (hxw.block _ (block_lt KB.out) (by show ¬ w.heap.size = c.rb; omega)).trans KB.out
               have k54 := cell_of_block k5 4
               have f54 := frozen_of_block k5 4
               have K5 := hide k5
               have HX5 := hide hxw
               have HR5 := hide hr
               clear k5 hx hr hxw)
          go_ret
          have hxw := HX5.out
          have hxe : Ext (· = w.heap.size) w5 (w5.setCell ⟨w.heap.size, 4, none⟩ (.string (f ++ ⟨#[41]⟩))) := (Ext.refl (· = w.heap.size) w5).setCell (p := ⟨w.heap.size, 4, none⟩) (fun _ => rfl) _
          have kW := block_setCell K5.out 4 (.string (f ++ ⟨#[41]⟩))
          have hr := HR5.out.ext hxe (by show ¬ c.rb = w.heap.size; omega) (by show ¬ c.tb = w.heap.size; omega) (by show ¬ c.nb = w.heap.size; omega)
          rw [show d + 1 - 1 = d from by omega] at hr
          rw [HCL.out, rdCloses, rdShut, if_pos (by simpa using hq)]
          have g1 := HFB.out
          have g4 : (ByteArray.mk #[41]).size = 1 := rfl
          refine ⟨w.heap.size, _, _, _, _, _, rfl, Nat.le_refl _, (HE.out.trans hxw).trans' hxe (fun i hi e => by omega), kW, ?_, hr, ?_⟩
          · simp only [ByteArray.size_append']; simp at g1 ⊢; omega
          · intro nd ts' e
            injection e with e1 e2
            subst e1
            refine RN.mk (pv := .slice a j cap) (form := f ++ ⟨#[41]⟩) (kids := kids) ?_ (Nat.le_refl _) ?_ ?_ (fun g hg => Nat.le_of_lt (HPV.out g hg)) ?_
            · exact kW
            · rw [formOf, if_pos (Or.inl rfl), tokOf, if_neg (by decide), toList_app, HF.out, one_byte]; simp
            · rw [rps, if_neg (by decide), HPL.out]
              exact own_ext (own_ext HOWN.out hxw (fun g hg e => by have := HPV.out g hg; omega)) hxe (fun g hg e => by have := HPV.out g hg; omega)
            · intro i q p hq1 hq2
              rw [rps, if_neg (by decide)] at hq2
              have h1 := HKIDS.out i q p hq1 hq2
              have h2 := h1.ext hxw (fun k _ hk e => by have := hk.1; omega)
              have h3 := h2.ext hxe (fun k _ hk e => by have := hk.1; omega)
              exact h3.mono (fun k _ hk => Nat.le_of_lt hk.1)
        | false => exact absurd hq hlt
    · have he0' : (e == 0) = false := by simpa using he0
      have c4 := hrd.c4
      have HRD := hide hrd
      have HRES := hide hres
      have HFS := hide hfs
      have hfi : f.size ≤ 400000 := by omega
      clear hrd hfs hres
      go_wp2_with (go_at_call 199; refine (rd_must_dead _ HRD.out he0).mono ?_; rintro e w' ⟨rfl, m3, rfl⟩)
      go_ret
      rw [HRES.out]
      exact dead_end (w5 := wr.drewN m3) (HE.out.drewN _) hrb htb hnb KB.out (HRD.out.drewN _) he0 (by have := HFS.out; simp; omega)

end Go.Proofs.YtegbdaffhpiacaaGreatDoor
