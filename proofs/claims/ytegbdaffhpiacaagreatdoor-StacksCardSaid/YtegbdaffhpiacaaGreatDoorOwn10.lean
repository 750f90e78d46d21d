/- The program's reader: formulas up to a closing bracket; The reader of the document's own answer: brackets whose first word cannot stand there; The reader of the document's own answer: formulas that begin with the connective 'not'; The reader of the document's own answer: formulas that begin with the connective 'imp'; The reader of the document's own answer: formulas that begin with the connective 'iff'. -/
import Derived.Test.YtegbdaffhpiacaaGreatDoorOwn09
import Derived.Deep.LoopGhost
import Derived.Test.YtegbdaffhpiacaaGreatDoorOwn03
/- The program's reader: formulas up to a closing bracket. -/
namespace Go.Proofs.YtegbdaffhpiacaaGreatDoor
open Go.RowKit Ar

set_option maxRecDepth 100000 in
set_option maxHeartbeats 400000 in
theorem p_upto {w : World} {c : PCtx} {ts : List Tk} {d pl er : Int} (n : Nat) (F : List Tk → Rs Nd) (h : PR w c ts d pl er) (hn : ts.length ≤ n) (hfit : Fits F)
    (hf : ∀ (w : World) (ts : List Tk), ts.length ≤ n → PR w c ts d pl er → Calls Tryz.prog 72 #[.pointer (some ⟨c.rb, 0, none⟩)] w (PPost w c d pl er (F ts))) :
    Calls Tryz.prog 187 #[.pointer (some ⟨c.rb, 0, none⟩)] w (RowPost w c d pl er (rdUpTo n F ts)) := by
  obtain ⟨i0, hi, hz0, hz1, hz2⟩ := info_parts info60
  have HI : Hid (Tryz.prog.info? 115 = some i0 ∧ i0.zero = some (.agg #[.int .i64 0, .string ByteArray.empty, .int .i64 0, .slice none 0 0]) ∧ i0.size = 4 ∧ i0.bytes = 56) := ⟨hi, hz0, hz1, hz2⟩
  clear hi hz0 hz1 hz2
  have H := hide h
  have HF := hide hf
  have HFIT := hide hfit
  have F0 := fld0
  have hrb := h.rbs
  have htb := h.tbs
  have hsb := h.sbs
  have HNV := hide h.nvs
  have hlen := h.len
  have HTS := hide h.ts
  clear h hf hfit
  go_enter Tryz.func187, Tryz.ntmps187
  go_wp2_with fail
  go_loopg [4] ts.length (fun gk out wr => ∃ (j : Nat) (sa : Option Addr) (sc : Nat) (ps : List Nd) (us : List Tk) (kids : List (List Value)), us.length ≤ gk ∧ gk + j ≤ ts.length ∧ out = .slice sa j sc ∧ Ext (· = c.rb) w wr ∧ PRow wr (w.heap.size ≤ ·) (.slice sa j sc) ps kids ∧ ps.length = j ∧ PR wr c us d pl er ∧ rdUpTo n F ts = rdPre ps (rdUpTo (n - j) F us))
  case atStart => exact ⟨0, none, 0, [], ts, [], Nat.le_refl _, by omega, rfl, Ext.refl _ _, ⟨World.ownsRow_nil _ _ _ _, fun _ h => absurd h (by simp), rfl, fun g hg => absurd hg (by simp [Value.ownBlock]), fun _ _ _ h => absurd h (by simp)⟩, rfl, H.out, by rw [pre_nil]; rfl⟩
  case round =>
    obtain ⟨j, sa, sc, ps, us, kids, hus, hgj, rfl, hE, hrow, hpl, hpr, hrd⟩ := hrel
    obtain ⟨v, vs, rfl⟩ := hpr.head
    have HE := hide hE
    have HROW := hide hrow
    have HPL := hide hpl
    have HPR := hide hpr
    have hnj : n - j = (n - j - 1) + 1 := by simp at hus; omega
    have HRD := hide hrd
    have HNJ := hide hnj
    have HUS := hide hus
    clear hE hrow hpr hrd hpl hnj hus
    obtain ⟨hi, hz0, hz1, hz2⟩ := HI.out
    by_cases hq : v.txt.toList = [41]
    · have hk : (kOf v.txt.toList == 2) = true := by rw [kOf_close hq]; rfl
      have HRES : Hid (rdUpTo n F ts = .ok ps (v :: vs)) := by
        show _ = _
        rw [HRD.out, HNJ.out]; exact upTo_end hq
      clear hq
      go_wp2_with (go_at_call 107; refine (p_next HPR.out).mono ?_; rintro en w1 ⟨rfl, hx1⟩; have HX1 := hide hx1; clear hx1)
      go_ret2
      rw [HRES.out]
      refine ⟨HE.out.trans (HX1.out.mono (fun _ _ f => f.elim)), sa, j, sc, kids, rfl, ?_, HPR.out.new HX1.out⟩
      exact ⟨own_ext HROW.out.how HX1.out (fun _ _ f => f), HROW.out.hl, HROW.out.hn, HROW.out.hD, fun i cs p h1 h2 => (HROW.out.hk i cs p h1 h2).ext HX1.out (fun _ _ _ f => f)⟩
    · have hk := kOf_ne2 hq
      have HQ := hide hq
      clear hq
      go_wp2_with (go_at_call 107; refine (p_next HPR.out).mono ?_; rintro en w1 ⟨rfl, hx1⟩; have HX1 := hide hx1; clear hx1)
      have HCALL := hide (HF.out w1 (v :: vs) (by have h1 := HUS.out; omega) (HPR.out.new HX1.out))
      have HROW1 : Hid (PRow w1 (w.heap.size ≤ ·) (.slice sa j sc) ps kids) := ⟨own_ext HROW.out.how HX1.out (fun _ _ f => f), HROW.out.hl, HROW.out.hn, HROW.out.hD, fun i cs p h1 h2 => (HROW.out.hk i cs p h1 h2).ext HX1.out (fun _ _ _ f => f)⟩
      have HE1 : Hid (Ext (· = c.rb) w w1) := HE.out.trans (HX1.out.mono (fun _ _ f => f.elim))
      cases hFu : F (v :: vs) with
      | no e p =>
        have HRES : Hid (rdUpTo n F ts = .no e p) := by
          show _ = _
          rw [HRD.out, HNJ.out]; exact upTo_no HQ.out hFu
        have HCALL' : Hid (Calls Tryz.prog 72 #[.pointer (some ⟨c.rb, 0, none⟩)] w1 (PPost w1 c d pl er (.no e p))) := by
          have := HCALL.out; rw [hFu] at this; exact this
        clear HCALL hFu
        refine HCALL'.out.mono ?_
        rintro en w2 ⟨hx2, rfl, ts', d', hr2⟩
        have HX2 := hide hx2
        have HR2 := hide hr2
        clear hx2 hr2
        go_wp2_with fail
        go_ret2
        rw [HRES.out]
        exact ⟨(HE1.out.trans HX2.out).alloc _, rfl, ts', d', HR2.out.new ((Ext.refl _ w2).alloc _)⟩
      | ok nd us' =>
        have HSN : Hid (rdUpTo n F ts = rdPre (ps ++ [nd]) (rdUpTo (n - j - 1) F us')) := by
          show _ = _
          rw [HRD.out, HNJ.out, upTo_step HQ.out hFu]; rfl
        have HSHORT : Hid (us'.length + 1 ≤ (v :: vs).length) := fits_short HFIT.out HPR.out.ts hFu
        have HCALL' : Hid (Calls Tryz.prog 72 #[.pointer (some ⟨c.rb, 0, none⟩)] w1 (PPost w1 c d pl er (.ok nd us'))) := by
          have := HCALL.out; rw [hFu] at this; exact this
        clear HCALL hFu
        refine HCALL'.out.mono ?_
        rintro en w2 ⟨hx2, k, wd, v2, na, nn, nc, rfl, hn2, hr2⟩
        have HX2 := hide hx2
        have HR2 := hide hr2
        have HN2 := hide hn2
        have HO2 := hide (own_ext HROW1.out.how hx2 (fun q hq e => by have h1 : w.heap.size ≤ q := HROW1.out.hD q hq; have h2 : q = c.rb := e; omega))
        clear hx2 hr2 hn2
        go_wp2_with (at_builtin; refine wpList_append_own_at _ rfl _ _ 113 rfl 0 115 i0 (.agg #[.int .i64 0, .string ByteArray.empty, .int .i64 0, .slice none 0 0]) 4 56 Tryz.underlying113 hi hz0 hz1 hz2 rfl (by decide) _ _ _ rfl ((HO2.out.alloc _).alloc _) ⟨w2.heap.size + 1, 0, none⟩ 1 1 [.int .i64 k, .string wd, .int .i64 v2, .slice na nn nc] rfl rfl ?c1 ?c2 ?c3 ?c4 ?c5 ?_)
        case c1 =>
          intro q u hq2
          match q, hq2 with
          | 0, hq2 => simp at hq2; subst hq2; simp [Addr.add]
          | 1, hq2 => simp at hq2; subst hq2; simp [Addr.add]
          | 2, hq2 => simp at hq2; subst hq2; simp [Addr.add]
          | 3, hq2 => simp at hq2; subst hq2; simp [Addr.add]
        case c2 => intro u hu; simp at hu; rcases hu with rfl | rfl | rfl | rfl <;> rfl
        case c3 => have := HPL.out; unfold maxLen; omega
        case c4 => have := HPL.out; omega
        case c5 => omega
        intro v' wa hown' hgrow _ hat
        obtain ⟨hrow', hxa, ⟨g2, cap2, hv'⟩, hlo⟩ := prow_step HE1.out HROW1.out HX2.out HN2.out rfl _ _ hown' hgrow hat hrb
        have HROW2 := hide hrow'
        have HE2 : Hid (Ext (· = c.rb) w wa) := (HE1.out.trans HX2.out).trans' hxa (fun i hi e => by have := hlo i e; omega)
        have HR3 := hide (HR2.out.ext hxa (fun e => by have := hlo _ e; omega) (fun e => by have := hlo _ e; omega) (fun e => by have := hlo _ e; omega) (fun g hg e => by have h1 := hlo _ e; have := HNV.out g hg; omega) (fun e => by have := hlo _ e; have := HR2.out.hdn; omega))
        clear hown' hgrow hat hrow' hxa hlo
        subst hv'
        go_wp2_with fail
        go_roundg (gk - 1)
        case measure => have h1 := HUS.out; simp at h1; omega
        case rel =>
          have h1 := HUS.out
          have h2 := HSHORT.out
          refine ⟨j + 1, some ⟨g2, 0, none⟩, cap2, ps ++ [nd], us', kids ++ [[.int .i64 k, .string wd, .int .i64 v2, .slice na nn nc]], by simp at h1 h2; omega, by simp at h1; omega, by rw [HPL.out], HE2.out, by have h1 := HROW2.out; rw [HPL.out] at h1; exact h1, by simp [HPL.out], HR3.out, ?_⟩
          rw [HSN.out]
          rfl

end Go.Proofs.YtegbdaffhpiacaaGreatDoor

/- The reader of the document's own answer: brackets whose first word cannot stand there. -/
namespace Go.Proofs.YtegbdaffhpiacaaGreatDoor
open Go.RowKit Ar

theorem hd_none {l : List UInt8} (h : hdOf l = none) : (l == [61]) = false ∧ (l == [60]) = false ∧ (l == [60, 61]) = false ∧ (l == [108, 101]) = false ∧ (l == [110, 111, 116]) = false ∧ (l == [61, 62]) = false ∧ (l == [105, 102, 102]) = false ∧ (l == [97, 110, 100]) = false ∧ (l == [111, 114]) = false := by
  have key : ∀ x, hdOf x ≠ none → (l == x) = false := by
    intro x hx
    cases hq : (l == x) with
    | false => rfl
    | true => rw [beq_iff_eq.1 hq] at h; exact absurd h hx
  exact ⟨key _ (by decide), key _ (by decide), key _ (by decide), key _ (by decide), key _ (by decide), key _ (by decide), key _ (by decide), key _ (by decide), key _ (by decide)⟩

set_option maxRecDepth 100000 in
set_option maxHeartbeats 1000000 in
theorem form_bad {w : World} {c : Ctx} {t u : Tk} {us0 : List Tk} {d pl : Int} (h : Rd w c (t :: u :: us0) d 0 pl) (ho : (t.txt.toList == [40]) = true) (hd : d < 30) (hu : hdOf u.txt.toList = none) :
    Calls Tryz.prog 160 #[.pointer (some ⟨c.rb, 0, none⟩)] w (TermPost w c (t :: u :: us0) d pl (.no 2 u.pos)) := by
  obtain ⟨b0, b1, b2, b3, b4, b5, b6, b7, b8⟩ := hd_none hu
  have a1 : (t.txt.toList == [116, 114, 117, 101]) = false := by rw [beq_iff_eq.1 ho]; decide
  have a2 : (t.txt.toList == [102, 97, 108, 115, 101]) = false := by rw [beq_iff_eq.1 ho]; decide
  have H := hide h
  have hrb := h.rbs
  have htb := h.tbs
  have hnb := h.nbs
  have hd0 := h.dlo
  have HTS := hide h.ts
  have hsu : u.txt.size ≤ 600 := h.ts u (by simp)
  have hL1 : us0.length ≤ 599 := by have := h.len; simp at this; omega
  clear h hu
  go_enter Tryz.func160, Tryz.ntmps160
  go_wp2_with (go_at_call 161; refine (rd_next H.out).mono ?_; rintro e w' ⟨rfl, m, rfl⟩)
  have hx0 : Ext (fun _ => False) w ((w.drewN m).alloc (Obj.cells #[.string t.txt, .slice none 0 0, .int .i64 0, .bool false, .string t.txt] 235)) := ((Ext.refl _ w).drewN m).alloc _
  refine (rd_must_open (H.out.ext hx0 (fun f => f) (fun f => f) (fun f => f)) ho hd).mono ?_
  rintro e w1 ⟨rfl, hx1, hr1⟩
  have kb1 : w1.heap[w.heap.size]? = some (.cells #[.string t.txt, .slice none 0 0, .int .i64 0, .bool false, .string t.txt] 235) :=
    (hx1.block _ (block_lt (heap_alloc_new (w.drewN m) _)) (by show ¬ w.heap.size = c.rb; omega)).trans (heap_alloc_new (w.drewN m) _)
  have k10 := cell_of_block kb1 0
  have f10 := frozen_of_block kb1 0
  have k14 := cell_of_block kb1 4
  have f14 := frozen_of_block kb1 4
  have c4 := hr1.c4
  have HX1 : Hid (Ext (· = c.rb) w w1) := (hx0.mono (fun _ _ f => f.elim)).trans hx1
  have KB1 := hide kb1
  have HR1 := hide hr1
  clear hx0 hx1 kb1 hr1
  go_wp2_with (go_at_call 161; refine (rd_next HR1.out).mono ?_; rintro e w' ⟨rfl, m1, rfl⟩)
  have hxs : Ext (· = w.heap.size) w1 (((w1.drewN m1).setCell ⟨w.heap.size, 0, none⟩ (.string u.txt)).setCell ⟨w.heap.size, 4, none⟩ (.string (⟨#[40]⟩ ++ u.txt))) := (((Ext.refl (· = w.heap.size) w1).drewN m1).setCell (p := ⟨w.heap.size, 0, none⟩) (fun _ => rfl) _).setCell (p := ⟨w.heap.size, 4, none⟩) (fun _ => rfl) _
  refine (rd_fail_live _ (HR1.out.ext hxs (by show ¬ c.rb = w.heap.size; omega) (by show ¬ c.tb = w.heap.size; omega) (by show ¬ c.nb = w.heap.size; omega))).mono ?_
  rintro e w2 ⟨rfl, hx2, hr2⟩
  have kbs : (((w1.drewN m1).setCell ⟨w.heap.size, 0, none⟩ (.string u.txt)).setCell ⟨w.heap.size, 4, none⟩ (.string (⟨#[40]⟩ ++ u.txt))).heap[w.heap.size]? = some (.cells #[.string u.txt, .slice none 0 0, .int .i64 0, .bool false, .string (⟨#[40]⟩ ++ u.txt)] 235) := block_setCell (block_setCell (w := w1.drewN m1) KB1.out 0 _) 4 _
  have kb2 : w2.heap[w.heap.size]? = some (.cells #[.string u.txt, .slice none 0 0, .int .i64 0, .bool false, .string (⟨#[40]⟩ ++ u.txt)] 235) :=
    (hx2.block _ (block_lt kbs) (by show ¬ w.heap.size = c.rb; omega)).trans kbs
  have HX2 : Hid (Ext (· = c.rb) w w2) := (HX1.out.trans' hxs (fun i hi e => by omega)).trans hx2
  have KB2 := hide kb2
  have HR2 := hide hr2
  have c42 := hr2.c4
  have x4 := cell_of_block kb2 4
  have x4f := frozen_of_block kb2 4
  clear k10 f10 k14 f14 c4 hxs hx2 hr2 kbs kb2 a1 a2
  go_wp2_with first
    | (go_at_call 198; refine (rd_take_dead HR2.out (by decide)).mono ?_; rintro e w' ⟨rfl, m2, rfl⟩)
  go_loopg [8] 0 (fun _ _ wr => wr = w2.drewN m2)
  case atStart => exact rfl
  case round =>
    subst hrel
    go_wp2_with (go_at_call 199; refine (rd_must_dead _ (HR2.out.drewN _) (by decide)).mono ?_; rintro e w' ⟨rfl, m3, rfl⟩)
    go_ret
    exact dead_end (w5 := w2.drewN (m2 + m3)) (HX2.out.drewN _) hrb htb hnb KB2.out (HR2.out.drewN _) (by decide) (by simp only [ByteArray.size_append']; have g4 : (ByteArray.mk #[40]).size = 1 := rfl; simp; omega)

end Go.Proofs.YtegbdaffhpiacaaGreatDoor

/- The reader of the document's own answer: formulas that begin with the connective 'not'. -/
namespace Go.Proofs.YtegbdaffhpiacaaGreatDoor
open Go.RowKit Ar

set_option maxRecDepth 100000 in
set_option maxHeartbeats 1000000 in
theorem form_not {w : World} {c : Ctx} {t u : Tk} {us0 : List Tk} {d pl : Int} {n : Nat} (h : Rd w c (t :: u :: us0) d 0 pl) (ho : (t.txt.toList == [40]) = true) (hd : d < 30) (hu : u.txt.toList = [110, 111, 116]) (hn : us0.length < n)
    (ih : ∀ (w : World) (ts : List Tk) (d pl : Int), ts.length ≤ n → Rd w c ts d 0 pl → Calls Tryz.prog 160 #[.pointer (some ⟨c.rb, 0, none⟩)] w (TermPost w c ts d pl (rdForm c.N n d ts))) :
    Calls Tryz.prog 160 #[.pointer (some ⟨c.rb, 0, none⟩)] w (TermPost w c (t :: u :: us0) d pl (rdCloses 2 1 u.txt (rdRow (List.replicate 1 (rdForm c.N n (d + 1))) us0))) := by
  have a1 : (t.txt.toList == [116, 114, 117, 101]) = false := by rw [beq_iff_eq.1 ho]; decide
  have a2 : (t.txt.toList == [102, 97, 108, 115, 101]) = false := by rw [beq_iff_eq.1 ho]; decide
  have b0 : (u.txt.toList == [61]) = false := by rw [hu]; decide
  have b1 : (u.txt.toList == [60]) = false := by rw [hu]; decide
  have b2 : (u.txt.toList == [60, 61]) = false := by rw [hu]; decide
  have b3 : (u.txt.toList == [108, 101]) = false := by rw [hu]; decide
  have b4 : (u.txt.toList == [110, 111, 116]) = true := by rw [hu]; decide
  have q1 : (u.txt.toList == [40]) = false := by rw [hu]; decide
  have q2 : (u.txt.toList == [41]) = false := by rw [hu]; decide
  have q3 : u.txt.toList.isEmpty = false := by rw [hu]; decide
  have IH := hide ih
  have H := hide h
  have hrb := h.rbs
  have htb := h.tbs
  have hnb := h.nbs
  have hd0 := h.dlo
  have HTS := hide h.ts
  have hsu : u.txt.size ≤ 600 := h.ts u (by simp)
  have hL1 : us0.length ≤ 599 := by have := h.len; simp at this; omega
  clear h ih hu
  obtain ⟨i0, hi, hz0, hz1, hz2⟩ := info_parts info78
  have HI : Hid (Tryz.prog.info? 172 = some i0 ∧ i0.zero = some (.pointer none) ∧ i0.size = 1 ∧ i0.bytes = 8) := ⟨hi, hz0, hz1, hz2⟩
  clear hi hz0 hz1 hz2
  go_enter Tryz.func160, Tryz.ntmps160
  go_wp2_with (go_at_call 161; refine (rd_next H.out).mono ?_; rintro e w' ⟨rfl, m, rfl⟩)
  have hx0 : Ext (fun _ => False) w ((w.drewN m).alloc (Obj.cells #[.string t.txt, .slice none 0 0, .int .i64 0, .bool false, .string t.txt] 235)) := ((Ext.refl _ w).drewN m).alloc _
  refine (rd_must_open (H.out.ext hx0 (fun f => f) (fun f => f) (fun f => f)) ho hd).mono ?_
  rintro e w1 ⟨rfl, hx1, hr1⟩
  have kb1 : w1.heap[w.heap.size]? = some (.cells #[.string t.txt, .slice none 0 0, .int .i64 0, .bool false, .string t.txt] 235) :=
    (hx1.block _ (block_lt (heap_alloc_new (w.drewN m) _)) (by show ¬ w.heap.size = c.rb; omega)).trans (heap_alloc_new (w.drewN m) _)
  have k10 := cell_of_block kb1 0
  have f10 := frozen_of_block kb1 0
  have k14 := cell_of_block kb1 4
  have f14 := frozen_of_block kb1 4
  have c4 := hr1.c4
  have HX1 : Hid (Ext (· = c.rb) w w1) := (hx0.mono (fun _ _ f => f.elim)).trans hx1
  have KB1 := hide kb1
  have HR1 := hide hr1
  clear hx0 hx1 kb1 hr1
  go_wp2_with (go_at_call 161; refine (rd_next HR1.out).mono ?_; rintro e w' ⟨rfl, m1, rfl⟩)
  have hxs : Ext (· = w.heap.size) w1 (((w1.drewN m1).setCell ⟨w.heap.size, 0, none⟩ (.string u.txt)).setCell ⟨w.heap.size, 4, none⟩ (.string (⟨#[40]⟩ ++ u.txt))) := (((Ext.refl (· = w.heap.size) w1).drewN m1).setCell (p := ⟨w.heap.size, 0, none⟩) (fun _ => rfl) _).setCell (p := ⟨w.heap.size, 4, none⟩) (fun _ => rfl) _
  refine (rd_take_word (HR1.out.ext hxs (by show ¬ c.rb = w.heap.size; omega) (by show ¬ c.tb = w.heap.size; omega) (by show ¬ c.nb = w.heap.size; omega)) q1 q2 q3).mono ?_
  rintro e w2 ⟨rfl, hx2, hr2⟩
  have kbs : (((w1.drewN m1).setCell ⟨w.heap.size, 0, none⟩ (.string u.txt)).setCell ⟨w.heap.size, 4, none⟩ (.string (⟨#[40]⟩ ++ u.txt))).heap[w.heap.size]? = some (.cells #[.string u.txt, .slice none 0 0, .int .i64 0, .bool false, .string (⟨#[40]⟩ ++ u.txt)] 235) := block_setCell (block_setCell (w := w1.drewN m1) KB1.out 0 _) 4 _
  have kb2 : w2.heap[w.heap.size]? = some (.cells #[.string u.txt, .slice none 0 0, .int .i64 0, .bool false, .string (⟨#[40]⟩ ++ u.txt)] 235) :=
    (hx2.block _ (block_lt kbs) (by show ¬ w.heap.size = c.rb; omega)).trans kbs
  have HX2 : Hid (Ext (· = c.rb) w w2) := (HX1.out.trans' hxs (fun i hi e => by omega)).trans hx2
  have KB2 := hide kb2
  have HR2 := hide hr2
  have HF0 : Hid ((ByteArray.mk #[40] ++ u.txt).toList = 40 :: (u.txt.toList ++ [])) := by
    show _ = _
    rw [toList_app, one_byte]; simp
  clear k10 f10 k14 f14 c4 hxs hx2 hr2 kbs kb2 a1 a2 b0 b1 b2 b3 b4
  go_wp2_with fail
  go_loopg [8] 1000 (fun gk _ wr => ∃ (j : Nat) (a : Option Addr) (cap : Nat) (f : ByteArray), gk + j = 1000 ∧ Ext (· = c.rb) w wr ∧ wr.heap[w.heap.size]? = some (.cells #[.string u.txt, .slice a j cap, .int .i64 0, .bool false, .string f] 235) ∧
      ((∃ us ps kids, TLive w c (d + 1) pl (rdForm c.N n (d + 1)) (40 :: u.txt.toList) us0 wr j (.slice a j cap) f us ps kids ∧ j ≤ 1) ∨
       (∃ (e : Int) (p : Nat), (¬ e = 0) ∧ (∃ ts d', Rd wr c ts d' e p) ∧ f.size + 3 ≤ 603 * (us0.length + 2) ∧ rdRow (List.replicate 1 (rdForm c.N n (d + 1))) us0 = .no e p)))
  case atStart =>
    exact ⟨0, none, 0, _, rfl, HX2.out, KB2.out, Or.inl ⟨us0, [], [], ⟨rfl, HR2.out, HF0.out, World.ownsRow_nil _ _ _ _, fun g hg => absurd hg (by simp [Value.ownBlock]), fun i b p hk => absurd hk (by simp)⟩, Nat.zero_le _⟩⟩
  case round =>
    obtain ⟨j, a, cap, f, hgk, hE, kb, hst⟩ := hrel
    have KB := hide kb
    have HE := hide hE
    clear HX2 KB2 HR2 HX1 KB1 HR1 hE
    have k1 := cell_of_block kb 1
    have k4 := cell_of_block kb 4
    have fr4 := frozen_of_block kb 4
    clear kb
    rcases hst with ⟨us, ps, kids, ⟨hrow, hrd, hf, hown, hpv, hkids⟩, hex⟩ | ⟨e, p, he0, ⟨tsx, dx, hrd⟩, hfs, hres⟩
    · obtain ⟨v, vs, rfl⟩ := hrd.head
      have c4 := hrd.c4
      have hb0 : TS us0 := fun x hx => HTS.out x (List.mem_cons_of_mem _ (List.mem_cons_of_mem _ hx))
      have hall : ∀ g ∈ List.replicate j (rdForm c.N n (d + 1)), Fits g := fun g hg => by rw [(List.mem_replicate.1 hg).2]; exact form_fits c.N n (d + 1)
      have hfit := row_fits _ hall us0 ps (v :: vs) hb0 hrow
      have hsh := row_short _ hall us0 ps (v :: vs) hb0 hrow
      rw [List.length_replicate] at hsh
      have hsz := size_of hf
      have hs1l := len_toList u.txt
      have hfb : f.size + 603 * (v :: vs).length ≤ 601 + 603 * us0.length := by
        rw [hsz]; simp at hfit ⊢; omega
      have hplen : ps.length = j := by rw [row_len _ _ _ _ hrow]; simp
      have hvn : (v :: vs).length ≤ n := by omega
      have hjj : (j : Int) ≤ 599 := by omega
      have hfi : f.size ≤ 400000 := by omega
      have HROW := hide hrow
      have HRD := hide hrd
      have HF := hide hf
      have HOWN := hide hown
      have HPV := hide hpv
      have HKIDS := hide hkids
      have HFB := hide hfb
      have HPL := hide hplen
      have HVN := hide hvn
      have HEX := hide hex
      have HSH := hide hsh
      clear hrow hrd hf hown hpv hkids hfb hplen hvn hex hall hfit hsz hb0 hsh hs1l
      by_cases hlt : (j : Int) < 1
      · go_wp2_with fail
        refine (IH.out _ (v :: vs) (d + 1) pl HVN.out HRD.out).mono ?_
        rintro e wt ⟨b, x0, x1, x2, x3, f', rfl, hb, hx, bb, hfs', hsd, hrn⟩
        have hxt : Ext (· = c.rb) wr wt := hx
        have kbt : wt.heap[w.heap.size]? = some (.cells #[.string u.txt, .slice a j cap, .int .i64 0, .bool false, .string f] 235) := (hxt.block _ (block_lt KB.out) (by show ¬ w.heap.size = c.rb; omega)).trans KB.out
        have t1 := cell_of_block kbt 1
        have HOT : Hid (wt.ownsRow 0 172 1 (.slice a j cap) j (kids.map kp)) := own_ext HOWN.out hxt (fun g hg e => by have := HPV.out g hg; omega)
        have HX := hide hx
        have BB := hide bb
        have HSD := hide hsd
        have HRN := hide hrn
        have HB := hide hb
        have HFS := hide hfs'
        have hf'i : f'.size ≤ 400000 := by have h2 := HFS.out; have h3 := HFB.out; omega
        clear hxt kbt hx bb hsd hrn hb hfs' k1 k4 fr4
        obtain ⟨hi, hz0, hz1, hz2⟩ := HI.out
        go_wp2_with (at_builtin; refine wpList_append_own_at _ rfl _ _ 171 rfl 0 172 i0 (.pointer none) 1 8 Tryz.underlying171 hi hz0 hz1 hz2 rfl (by decide) _ _ _ rfl (HOT.out.alloc _) ⟨wt.heap.size, 0, none⟩ 1 1 [.pointer (some ⟨b, 0, none⟩)] rfl rfl ?c1 ?c2 ?c3 ?c4 ?c5 ?_)
        case c1 =>
          intro q u2 hq2
          match q, hq2 with
          | 0, hq2 => simp at hq2; subst hq2; simp [Addr.add]
        case c2 => intro u2 hu2; simp at hu2; subst hu2; rfl
        case c3 => unfold maxLen; omega
        case c4 => omega
        case c5 => omega
        intro v' wa hown' hgrow _ hat
        obtain ⟨ka, kab, hbx, ⟨g, cap', hv', hgx, hgb⟩, hall⟩ := part_step (hd := 40 :: u.txt.toList) HE.out hrb htb hnb HOWN.out HPV.out HKIDS.out HPL.out HF.out KB.out (Ext.refl _ wr) HB.out HX.out BB.out HSD.out HRN.out _ hown' hgrow hat
        have HALL := hide hall
        have a1 := cell_of_block ka 1
        have a4 := cell_of_block ka 4
        have fa1 := frozen_of_block ka 1
        have fa4 := frozen_of_block ka 4
        have b4 := cell_of_block kab 4
        have KA := hide ka
        clear hall ka kab hown' hgrow hat hi hz0 hz1 hz2 t1
        subst hv'
        go_wp2_with fail
        go_region
        go_wp2_with fail
        go_roundg (gk - 1)
        case measure => omega
        case rel =>
          have hW : Ext (· = w.heap.size) wa (((wa.setCell ⟨w.heap.size, 1, none⟩ (.slice (some ⟨g, 0, none⟩) (j + 1) cap')).setCell ⟨w.heap.size, 4, none⟩ (.string (f ++ ⟨#[32]⟩ ++ f'))).drew) :=
            (((Ext.refl (· = w.heap.size) wa).setCell (p := ⟨w.heap.size, 1, none⟩) (fun _ => rfl) _).setCell (p := ⟨w.heap.size, 4, none⟩) (fun _ => rfl) _).drew
          have kW := block_setCell (block_setCell KA.out 1 (.slice (some ⟨g, 0, none⟩) (j + 1) cap')) 4 (.string (f ++ ⟨#[32]⟩ ++ f'))
          obtain ⟨q1, q2, q3, q4, q5⟩ := HALL.out _ hW kW
          refine ⟨j + 1, _, _, _, by omega, q1, kW, ?_⟩
          cases hrt : rdForm c.N n (d + 1) (v :: vs) with
          | ok nd vs' =>
            rw [hrt] at q2
            obtain ⟨q6, q7⟩ := q5 nd vs' hrt
            exact Or.inl ⟨vs', ps ++ [nd], kids ++ [b], ⟨row_snoc_ok HROW.out hrt, q2, q6, q4, q3, q7⟩, by omega⟩
          | no e p =>
            rw [hrt] at q2
            obtain ⟨h0, ts', d', hr⟩ := q2
            refine Or.inr ⟨e, p, h0, ⟨ts', d', hr⟩, ?_, row_snoc_no HROW.out hrt (by omega)⟩
            have g1 := HFS.out
            have g2 := HFB.out
            simp only [ByteArray.size_append']
            have g4 : (ByteArray.mk #[32]).size = 1 := rfl
            omega
      · cases hq : (v.txt.toList == [41]) with
        | true =>
          have hcl : rdRow (List.replicate 1 (rdForm c.N n (d + 1))) us0 = .ok ps (v :: vs) := by
            have h2 : 1 = j := by have h1 := HEX.out; omega
            rw [h2]; exact HROW.out
          have HCL := hide hcl
          clear hcl
          go_wp2_with first
            | (go_at_call 199; refine (rd_must_close HRD.out hq (by omega)).mono ?_; rintro e w5 ⟨rfl, hx, hr⟩
               have hxw : Ext (· = c.rb) wr w5 := hx
               have k5 : w5.heap[w.heap.size]? = some (.cells #[.string u.txt, .slice a j cap, .int .i64 0, .bool false, .string f] 235) := (hxw.block _ (block_lt KB.out) (by show ¬ w.heap.size = c.rb; omega)).trans KB.out
               have k54 := cell_of_block k5 4
               have f54 := frozen_of_block k5 4
               have K5 := hide k5
               have HX5 := hide hxw
               have HR5 := hide hr
               clear k5 hx hr hxw)
          go_ret
          have hxw := HX5.out
          have hxe : Ext (· = w.heap.size) w5 (w5.setCell ⟨w.heap.size, 4, none⟩ (.string (f ++ ⟨#[41]⟩))) := (Ext.refl (· = w.heap.size) w5).setCell (p := ⟨w.heap.size, 4, none⟩) (fun _ => rfl) _
          have kW := block_setCell K5.out 4 (.string (f ++ ⟨#[41]⟩))
          have hr := HR5.out.ext hxe (by show ¬ c.rb = w.heap.size; omega) (by show ¬ c.tb = w.heap.size; omega) (by show ¬ c.nb = w.heap.size; omega)
          rw [show d + 1 - 1 = d from by omega] at hr
          rw [HCL.out, rdCloses, rdShut, if_pos (by simpa using hq)]
          have g1 := HFB.out
          have g4 : (ByteArray.mk #[41]).size = 1 := rfl
          refine ⟨w.heap.size, _, _, _, _, _, rfl, Nat.le_refl _, (HE.out.trans hxw).trans' hxe (fun i hi e => by omega), kW, ?_, hr, ?_⟩
          · simp only [ByteArray.size_append']; simp at g1 ⊢; omega
          · intro nd ts' e
            injection e with e1 e2
            subst e1
            refine RN.mk (pv := .slice a j cap) (form := f ++ ⟨#[41]⟩) (kids := kids) ?_ (Nat.le_refl _) ?_ ?_ (fun g hg => Nat.le_of_lt (HPV.out g hg)) ?_
            · exact kW
            · rw [formOf, if_pos (Or.inl rfl), tokOf, if_neg (by decide), toList_app, HF.out, one_byte]; simp
            · rw [rps, if_neg (by decide), HPL.out]
              exact own_ext (own_ext HOWN.out hxw (fun g hg e => by have := HPV.out g hg; omega)) hxe (fun g hg e => by have := HPV.out g hg; omega)
            · intro i q p hq1 hq2
              rw [rps, if_neg (by decide)] at hq2
              have h1 := HKIDS.out i q p hq1 hq2
              have h2 := h1.ext hxw (fun k _ hk e => by have := hk.1; omega)
              have h3 := h2.ext hxe (fun k _ hk e => by have := hk.1; omega)
              exact h3.mono (fun k _ hk => Nat.le_of_lt hk.1)
        | false => 
          have hcl : rdRow (List.replicate 1 (rdForm c.N n (d + 1))) us0 = .ok ps (v :: vs) := by
            have h2 : 1 = j := by have h1 := HEX.out; omega
            rw [h2]; exact HROW.out
          have HCL := hide hcl
          clear hcl
          have HQ : Hid ((v.txt.toList == (ByteArray.mk #[41]).toList) = false) := by
            show _ = _
            rw [one_byte]; exact hq
          go_wp2_with first
            | (go_at_call 199; refine (rd_must_no _ HRD.out HQ.out).mono ?_; rintro e w5 ⟨rfl, hx, hr⟩
               have k5 : w5.heap[w.heap.size]? = some (.cells #[.string u.txt, .slice a j cap, .int .i64 0, .bool false, .string f] 235) := (hx.block _ (block_lt KB.out) (by show ¬ w.heap.size = c.rb; omega)).trans KB.out
               have k54 := cell_of_block k5 4
               have f54 := frozen_of_block k5 4
               have K5 := hide k5
               have HX5 := hide hx
               have HR5 := hide hr
               clear k5 hx hr)
          go_ret
          have g1 := HFB.out
          have hre : rdCloses 2 1 u.txt (rdRow (List.replicate 1 (rdForm c.N n (d + 1))) us0) = .no 2 v.pos := by
            rw [HCL.out, rdCloses, rdShut, if_neg (by simpa using hq)]
            split <;> rfl
          rw [hre]
          exact dead_end (HE.out.trans HX5.out) hrb htb hnb K5.out HR5.out (by decide) (by simp at g1 ⊢; omega)
    · have he0' : (e == 0) = false := by simpa using he0
      have c4 := hrd.c4
      have HRD := hide hrd
      have HRES := hide hres
      have HFS := hide hfs
      have hfi : f.size ≤ 400000 := by omega
      clear hrd hfs hres
      go_wp2_with (go_at_call 199; refine (rd_must_dead _ HRD.out he0).mono ?_; rintro e w' ⟨rfl, m3, rfl⟩)
      go_ret
      rw [HRES.out]
      exact dead_end (w5 := wr.drewN m3) (HE.out.drewN _) hrb htb hnb KB.out (HRD.out.drewN _) he0 (by have := HFS.out; simp; omega)

end Go.Proofs.YtegbdaffhpiacaaGreatDoor

/- The reader of the document's own answer: formulas that begin with the connective 'imp'. -/
namespace Go.Proofs.YtegbdaffhpiacaaGreatDoor
open Go.RowKit Ar

set_option maxRecDepth 100000 in
set_option maxHeartbeats 1000000 in
theorem form_imp {w : World} {c : Ctx} {t u : Tk} {us0 : List Tk} {d pl : Int} {n : Nat} (h : Rd w c (t :: u :: us0) d 0 pl) (ho : (t.txt.toList == [40]) = true) (hd : d < 30) (hu : u.txt.toList = [61, 62]) (hn : us0.length < n)
    (ih : ∀ (w : World) (ts : List Tk) (d pl : Int), ts.length ≤ n → Rd w c ts d 0 pl → Calls Tryz.prog 160 #[.pointer (some ⟨c.rb, 0, none⟩)] w (TermPost w c ts d pl (rdForm c.N n d ts))) :
    Calls Tryz.prog 160 #[.pointer (some ⟨c.rb, 0, none⟩)] w (TermPost w c (t :: u :: us0) d pl (rdCloses 2 1 u.txt (rdRow (List.replicate 2 (rdForm c.N n (d + 1))) us0))) := by
  have a1 : (t.txt.toList == [116, 114, 117, 101]) = false := by rw [beq_iff_eq.1 ho]; decide
  have a2 : (t.txt.toList == [102, 97, 108, 115, 101]) = false := by rw [beq_iff_eq.1 ho]; decide
  have b0 : (u.txt.toList == [61]) = false := by rw [hu]; decide
  have b1 : (u.txt.toList == [60]) = false := by rw [hu]; decide
  have b2 : (u.txt.toList == [60, 61]) = false := by rw [hu]; decide
  have b3 : (u.txt.toList == [108, 101]) = false := by rw [hu]; decide
  have b4 : (u.txt.toList == [110, 111, 116]) = false := by rw [hu]; decide
  have b5 : (u.txt.toList == [61, 62]) = true := by rw [hu]; decide
  have q1 : (u.txt.toList == [40]) = false := by rw [hu]; decide
  have q2 : (u.txt.toList == [41]) = false := by rw [hu]; decide
  have q3 : u.txt.toList.isEmpty = false := by rw [hu]; decide
  have IH := hide ih
  have H := hide h
  have hrb := h.rbs
  have htb := h.tbs
  have hnb := h.nbs
  have hd0 := h.dlo
  have HTS := hide h.ts
  have hsu : u.txt.size ≤ 600 := h.ts u (by simp)
  have hL1 : us0.length ≤ 599 := by have := h.len; simp at this; omega
  clear h ih hu
  obtain ⟨i0, hi, hz0, hz1, hz2⟩ := info_parts info78
  have HI : Hid (Tryz.prog.info? 172 = some i0 ∧ i0.zero = some (.pointer none) ∧ i0.size = 1 ∧ i0.bytes = 8) := ⟨hi, hz0, hz1, hz2⟩
  clear hi hz0 hz1 hz2
  go_enter Tryz.func160, Tryz.ntmps160
  go_wp2_with (go_at_call 161; refine (rd_next H.out).mono ?_; rintro e w' ⟨rfl, m, rfl⟩)
  have hx0 : Ext (fun _ => False) w ((w.drewN m).alloc (Obj.cells #[.string t.txt, .slice none 0 0, .int .i64 0, .bool false, .string t.txt] 235)) := ((Ext.refl _ w).drewN m).alloc _
  refine (rd_must_open (H.out.ext hx0 (fun f => f) (fun f => f) (fun f => f)) ho hd).mono ?_
  rintro e w1 ⟨rfl, hx1, hr1⟩
  have kb1 : w1.heap[w.heap.size]? = some (.cells #[.string t.txt, .slice none 0 0, .int .i64 0, .bool false, .string t.txt] 235) :=
    (hx1.block _ (block_lt (heap_alloc_new (w.drewN m) _)) (by show ¬ w.heap.size = c.rb; omega)).trans (heap_alloc_new (w.drewN m) _)
  have k10 := cell_of_block kb1 0
  have f10 := frozen_of_block kb1 0
  have k14 := cell_of_block kb1 4
  have f14 := frozen_of_block kb1 4
  have c4 := hr1.c4
  have HX1 : Hid (Ext (· = c.rb) w w1) := (hx0.mono (fun _ _ f => f.elim)).trans hx1
  have KB1 := hide kb1
  have HR1 := hide hr1
  clear hx0 hx1 kb1 hr1
  go_wp2_with (go_at_call 161; refine (rd_next HR1.out).mono ?_; rintro e w' ⟨rfl, m1, rfl⟩)
  have hxs : Ext (· = w.heap.size) w1 (((w1.drewN m1).setCell ⟨w.heap.size, 0, none⟩ (.string u.txt)).setCell ⟨w.heap.size, 4, none⟩ (.string (⟨#[40]⟩ ++ u.txt))) := (((Ext.refl (· = w.heap.size) w1).drewN m1).setCell (p := ⟨w.heap.size, 0, none⟩) (fun _ => rfl) _).setCell (p := ⟨w.heap.size, 4, none⟩) (fun _ => rfl) _
  refine (rd_take_word (HR1.out.ext hxs (by show ¬ c.rb = w.heap.size; omega) (by show ¬ c.tb = w.heap.size; omega) (by show ¬ c.nb = w.heap.size; omega)) q1 q2 q3).mono ?_
  rintro e w2 ⟨rfl, hx2, hr2⟩
  have kbs : (((w1.drewN m1).setCell ⟨w.heap.size, 0, none⟩ (.string u.txt)).setCell ⟨w.heap.size, 4, none⟩ (.string (⟨#[40]⟩ ++ u.txt))).heap[w.heap.size]? = some (.cells #[.string u.txt, .slice none 0 0, .int .i64 0, .bool false, .string (⟨#[40]⟩ ++ u.txt)] 235) := block_setCell (block_setCell (w := w1.drewN m1) KB1.out 0 _) 4 _
  have kb2 : w2.heap[w.heap.size]? = some (.cells #[.string u.txt, .slice none 0 0, .int .i64 0, .bool false, .string (⟨#[40]⟩ ++ u.txt)] 235) :=
    (hx2.block _ (block_lt kbs) (by show ¬ w.heap.size = c.rb; omega)).trans kbs
  have HX2 : Hid (Ext (· = c.rb) w w2) := (HX1.out.trans' hxs (fun i hi e => by omega)).trans hx2
  have KB2 := hide kb2
  have HR2 := hide hr2
  have HF0 : Hid ((ByteArray.mk #[40] ++ u.txt).toList = 40 :: (u.txt.toList ++ [])) := by
    show _ = _
    rw [toList_app, one_byte]; simp
  clear k10 f10 k14 f14 c4 hxs hx2 hr2 kbs kb2 a1 a2 b0 b1 b2 b3 b4 b5
  go_wp2_with fail
  go_loopg [8] 1000 (fun gk _ wr => ∃ (j : Nat) (a : Option Addr) (cap : Nat) (f : ByteArray), gk + j = 1000 ∧ Ext (· = c.rb) w wr ∧ wr.heap[w.heap.size]? = some (.cells #[.string u.txt, .slice a j cap, .int .i64 0, .bool false, .string f] 235) ∧
      ((∃ us ps kids, TLive w c (d + 1) pl (rdForm c.N n (d + 1)) (40 :: u.txt.toList) us0 wr j (.slice a j cap) f us ps kids ∧ j ≤ 2) ∨
       (∃ (e : Int) (p : Nat), (¬ e = 0) ∧ (∃ ts d', Rd wr c ts d' e p) ∧ f.size + 3 ≤ 603 * (us0.length + 2) ∧ rdRow (List.replicate 2 (rdForm c.N n (d + 1))) us0 = .no e p)))
  case atStart =>
    exact ⟨0, none, 0, _, rfl, HX2.out, KB2.out, Or.inl ⟨us0, [], [], ⟨rfl, HR2.out, HF0.out, World.ownsRow_nil _ _ _ _, fun g hg => absurd hg (by simp [Value.ownBlock]), fun i b p hk => absurd hk (by simp)⟩, Nat.zero_le _⟩⟩
  case round =>
    obtain ⟨j, a, cap, f, hgk, hE, kb, hst⟩ := hrel
    have KB := hide kb
    have HE := hide hE
    clear HX2 KB2 HR2 HX1 KB1 HR1 hE
    have k1 := cell_of_block kb 1
    have k4 := cell_of_block kb 4
    have fr4 := frozen_of_block kb 4
    clear kb
    rcases hst with ⟨us, ps, kids, ⟨hrow, hrd, hf, hown, hpv, hkids⟩, hex⟩ | ⟨e, p, he0, ⟨tsx, dx, hrd⟩, hfs, hres⟩
    · obtain ⟨v, vs, rfl⟩ := hrd.head
      have c4 := hrd.c4
      have hb0 : TS us0 := fun x hx => HTS.out x (List.mem_cons_of_mem _ (List.mem_cons_of_mem _ hx))
      have hall : ∀ g ∈ List.replicate j (rdForm c.N n (d + 1)), Fits g := fun g hg => by rw [(List.mem_replicate.1 hg).2]; exact form_fits c.N n (d + 1)
      have hfit := row_fits _ hall us0 ps (v :: vs) hb0 hrow
      have hsh := row_short _ hall us0 ps (v :: vs) hb0 hrow
      rw [List.length_replicate] at hsh
      have hsz := size_of hf
      have hs1l := len_toList u.txt
      have hfb : f.size + 603 * (v :: vs).length ≤ 601 + 603 * us0.length := by
        rw [hsz]; simp at hfit ⊢; omega
      have hplen : ps.length = j := by rw [row_len _ _ _ _ hrow]; simp
      have hvn : (v :: vs).length ≤ n := by omega
      have hjj : (j : Int) ≤ 599 := by omega
      have hfi : f.size ≤ 400000 := by omega
      have HROW := hide hrow
      have HRD := hide hrd
      have HF := hide hf
      have HOWN := hide hown
      have HPV := hide hpv
      have HKIDS := hide hkids
      have HFB := hide hfb
      have HPL := hide hplen
      have HVN := hide hvn
      have HEX := hide hex
      have HSH := hide hsh
      clear hrow hrd hf hown hpv hkids hfb hplen hvn hex hall hfit hsz hb0 hsh hs1l
      by_cases hlt : (j : Int) < 2
      · go_wp2_with fail
        refine (IH.out _ (v :: vs) (d + 1) pl HVN.out HRD.out).mono ?_
        rintro e wt ⟨b, x0, x1, x2, x3, f', rfl, hb, hx, bb, hfs', hsd, hrn⟩
        have hxt : Ext (· = c.rb) wr wt := hx
        have kbt : wt.heap[w.heap.size]? = some (.cells #[.string u.txt, .slice a j cap, .int .i64 0, .bool false, .string f] 235) := (hxt.block _ (block_lt KB.out) (by show ¬ w.heap.size = c.rb; omega)).trans KB.out
        have t1 := cell_of_block kbt 1
        have HOT : Hid (wt.ownsRow 0 172 1 (.slice a j cap) j (kids.map kp)) := own_ext HOWN.out hxt (fun g hg e => by have := HPV.out g hg; omega)
        have HX := hide hx
        have BB := hide bb
        have HSD := hide hsd
        have HRN := hide hrn
        have HB := hide hb
        have HFS := hide hfs'
        have hf'i : f'.size ≤ 400000 := by have h2 := HFS.out; have h3 := HFB.out; omega
        clear hxt kbt hx bb hsd hrn hb hfs' k1 k4 fr4
        obtain ⟨hi, hz0, hz1, hz2⟩ := HI.out
        go_wp2_with (at_builtin; refine wpList_append_own_at _ rfl _ _ 171 rfl 0 172 i0 (.pointer none) 1 8 Tryz.underlying171 hi hz0 hz1 hz2 rfl (by decide) _ _ _ rfl (HOT.out.alloc _) ⟨wt.heap.size, 0, none⟩ 1 1 [.pointer (some ⟨b, 0, none⟩)] rfl rfl ?c1 ?c2 ?c3 ?c4 ?c5 ?_)
        case c1 =>
          intro q u2 hq2
          match q, hq2 with
          | 0, hq2 => simp at hq2; subst hq2; simp [Addr.add]
        case c2 => intro u2 hu2; simp at hu2; subst hu2; rfl
        case c3 => unfold maxLen; omega
        case c4 => omega
        case c5 => omega
        intro v' wa hown' hgrow _ hat
        obtain ⟨ka, kab, hbx, ⟨g, cap', hv', hgx, hgb⟩, hall⟩ := part_step (hd := 40 :: u.txt.toList) HE.out hrb htb hnb HOWN.out HPV.out HKIDS.out HPL.out HF.out KB.out (Ext.refl _ wr) HB.out HX.out BB.out HSD.out HRN.out _ hown' hgrow hat
        have HALL := hide hall
        have a1 := cell_of_block ka 1
        have a4 := cell_of_block ka 4
        have fa1 := frozen_of_block ka 1
        have fa4 := frozen_of_block ka 4
        have b4 := cell_of_block kab 4
        have KA := hide ka
        clear hall ka kab hown' hgrow hat hi hz0 hz1 hz2 t1
        subst hv'
        go_wp2_with fail
        go_region
        go_wp2_with fail
        go_roundg (gk - 1)
        case measure => omega
        case rel =>
          have hW : Ext (· = w.heap.size) wa (((wa.setCell ⟨w.heap.size, 1, none⟩ (.slice (some ⟨g, 0, none⟩) (j + 1) cap')).setCell ⟨w.heap.size, 4, none⟩ (.string (f ++ ⟨#[32]⟩ ++ f'))).drew) :=
            (((Ext.refl (· = w.heap.size) wa).setCell (p := ⟨w.heap.size, 1, none⟩) (fun _ => rfl) _).setCell (p := ⟨w.heap.size, 4, none⟩) (fun _ => rfl) _).drew
          have kW := block_setCell (block_setCell KA.out 1 (.slice (some ⟨g, 0, none⟩) (j + 1) cap')) 4 (.string (f ++ ⟨#[32]⟩ ++ f'))
          obtain ⟨q1, q2, q3, q4, q5⟩ := HALL.out _ hW kW
          refine ⟨j + 1, _, _, _, by omega, q1, kW, ?_⟩
          cases hrt : rdForm c.N n (d + 1) (v :: vs) with
          | ok nd vs' =>
            rw [hrt] at q2
            obtain ⟨q6, q7⟩ := q5 nd vs' hrt
            exact Or.inl ⟨vs', ps ++ [nd], kids ++ [b], ⟨row_snoc_ok HROW.out hrt, q2, q6, q4, q3, q7⟩, by omega⟩
          | no e p =>
            rw [hrt] at q2
            obtain ⟨h0, ts', d', hr⟩ := q2
            refine Or.inr ⟨e, p, h0, ⟨ts', d', hr⟩, ?_, row_snoc_no HROW.out hrt (by omega)⟩
            have g1 := HFS.out
            have g2 := HFB.out
            simp only [ByteArray.size_append']
            have g4 : (ByteArray.mk #[32]).size = 1 := rfl
            omega
      · cases hq : (v.txt.toList == [41]) with
        | true =>
          have hcl : rdRow (List.replicate 2 (rdForm c.N n (d + 1))) us0 = .ok ps (v :: vs) := by
            have h2 : 2 = j := by have h1 := HEX.out; omega
            rw [h2]; exact HROW.out
          have HCL := hide hcl
          clear hcl
          go_wp2_with first
            | (go_at_call 199; refine (rd_must_close HRD.out hq (by omega)).mono ?_; rintro e w5 ⟨rfl, hx, hr⟩
               have hxw : Ext (· = c.rb) wr w5 := hx
               have k5 : w5.heap[w.heap.size]? = some (.cells #[.string u.txt, .slice a j cap, .int .i64 0, .bool false, .string f] 235) := (hxw.block _ (block_lt KB.out) (by show ¬ w.heap.size = c.rb; omega)).trans KB.out
               have k54 := cell_of_block k5 4
               have f54 := frozen_of_block k5 4
               have K5 := hide k5
               have HX5 := hide hxw
               have HR5 := hide hr
               clear k5 hx hr hxw)
          go_ret
          have hxw := HX5.out
          have hxe : Ext (· = w.heap.size) w5 (w5.setCell ⟨w.heap.size, 4, none⟩ (.string (f ++ ⟨#[41]⟩))) := (Ext.refl (· = w.heap.size) w5).setCell (p := ⟨w.heap.size, 4, none⟩) (fun _ => rfl) _
          have kW := block_setCell K5.out 4 (.string (f ++ ⟨#[41]⟩))
          have hr := HR5.out.ext hxe (by show ¬ c.rb = w.heap.size; omega) (by show ¬ c.tb = w.heap.size; omega) (by show ¬ c.nb = w.heap.size; omega)
          rw [show d + 1 - 1 = d from by omega] at hr
          rw [HCL.out, rdCloses, rdShut, if_pos (by simpa using hq)]
          have g1 := HFB.out
          have g4 : (ByteArray.mk #[41]).size = 1 := rfl
          refine ⟨w.heap.size, _, _, _, _, _, rfl, Nat.le_refl _, (HE.out.trans hxw).trans' hxe (fun i hi e => by omega), kW, ?_, hr, ?_⟩
          · simp only [ByteArray.size_append']; simp at g1 ⊢; omega
          · intro nd ts' e
            injection e with e1 e2
            subst e1
            refine RN.mk (pv := .slice a j cap) (form := f ++ ⟨#[41]⟩) (kids := kids) ?_ (Nat.le_refl _) ?_ ?_ (fun g hg => Nat.le_of_lt (HPV.out g hg)) ?_
            · exact kW
            · rw [formOf, if_pos (Or.inl rfl), tokOf, if_neg (by decide), toList_app, HF.out, one_byte]; simp
            · rw [rps, if_neg (by decide), HPL.out]
              exact own_ext (own_ext HOWN.out hxw (fun g hg e => by have := HPV.out g hg; omega)) hxe (fun g hg e => by have := HPV.out g hg; omega)
            · intro i q p hq1 hq2
              rw [rps, if_neg (by decide)] at hq2
              have h1 := HKIDS.out i q p hq1 hq2
              have h2 := h1.ext hxw (fun k _ hk e => by have := hk.1; omega)
              have h3 := h2.ext hxe (fun k _ hk e => by have := hk.1; omega)
              exact h3.mono (fun k _ hk => Nat.le_of_lt hk.1)
        | false => 
          have hcl : rdRow (List.replicate 2 (rdForm c.N n (d + 1))) us0 = .ok ps (v :: vs) := by
            have h2 : 2 = j := by have h1 := HEX.out; omega
            rw [h2]; exact HROW.out
          have HCL := hide hcl
          clear hcl
          have HQ : Hid ((v.txt.toList == (ByteArray.mk #[41]).toList) = false) := by
            show _ = _
            rw [one_byte]; exact hq
          go_wp2_with first
            | (go_at_call 199; refine (rd_must_no _ HRD.out HQ.out).mono ?_; rintro e w5 ⟨rfl, hx, hr⟩
               have k5 : w5.heap[w.heap.size]? = some (.cells #[.string u.txt, .slice a j cap, .int .i64 0, .bool false, .string f] 235) := (hx.block _ (block_lt KB.out) (by show ¬ w.heap.size = c.rb; omega)).trans KB.out
               have k54 := cell_of_block k5 4
               have f54 := frozen_of_block k5 4
               have K5 := hide k5
               have HX5 := hide hx
               have HR5 := hide hr
               clear k5 hx hr)
          go_ret
          have g1 := HFB.out
          have hre : rdCloses 2 1 u.txt (rdRow (List.replicate 2 (rdForm c.N n (d + 1))) us0) = .no 2 v.pos := by
            rw [HCL.out, rdCloses, rdShut, if_neg (by simpa using hq)]
            split <;> rfl
          rw [hre]
          exact dead_end (HE.out.trans HX5.out) hrb htb hnb K5.out HR5.out (by decide) (by simp at g1 ⊢; omega)
    · have he0' : (e == 0) = false := by simpa using he0
      have c4 := hrd.c4
      have HRD := hide hrd
      have HRES := hide hres
      have HFS := hide hfs
      have hfi : f.size ≤ 400000 := by omega
      clear hrd hfs hres
      go_wp2_with (go_at_call 199; refine (rd_must_dead _ HRD.out he0).mono ?_; rintro e w' ⟨rfl, m3, rfl⟩)
      go_ret
      rw [HRES.out]
      exact dead_end (w5 := wr.drewN m3) (HE.out.drewN _) hrb htb hnb KB.out (HRD.out.drewN _) he0 (by have := HFS.out; simp; omega)

end Go.Proofs.YtegbdaffhpiacaaGreatDoor

/- The reader of the document's own answer: formulas that begin with the connective 'iff'. -/
namespace Go.Proofs.YtegbdaffhpiacaaGreatDoor
open Go.RowKit Ar

set_option maxRecDepth 100000 in
set_option maxHeartbeats 1000000 in
theorem form_iff {w : World} {c : Ctx} {t u : Tk} {us0 : List Tk} {d pl : Int} {n : Nat} (h : Rd w c (t :: u :: us0) d 0 pl) (ho : (t.txt.toList == [40]) = true) (hd : d < 30) (hu : u.txt.toList = [105, 102, 102]) (hn : us0.length < n)
    (ih : ∀ (w : World) (ts : List Tk) (d pl : Int), ts.length ≤ n → Rd w c ts d 0 pl → Calls Tryz.prog 160 #[.pointer (some ⟨c.rb, 0, none⟩)] w (TermPost w c ts d pl (rdForm c.N n d ts))) :
    Calls Tryz.prog 160 #[.pointer (some ⟨c.rb, 0, none⟩)] w (TermPost w c (t :: u :: us0) d pl (rdCloses 2 1 u.txt (rdRow (List.replicate 2 (rdForm c.N n (d + 1))) us0))) := by
  have a1 : (t.txt.toList == [116, 114, 117, 101]) = false := by rw [beq_iff_eq.1 ho]; decide
  have a2 : (t.txt.toList == [102, 97, 108, 115, 101]) = false := by rw [beq_iff_eq.1 ho]; decide
  have b0 : (u.txt.toList == [61]) = false := by rw [hu]; decide
  have b1 : (u.txt.toList == [60]) = false := by rw [hu]; decide
  have b2 : (u.txt.toList == [60, 61]) = false := by rw [hu]; decide
  have b3 : (u.txt.toList == [108, 101]) = false := by rw [hu]; decide
  have b4 : (u.txt.toList == [110, 111, 116]) = false := by rw [hu]; decide
  have b5 : (u.txt.toList == [61, 62]) = false := by rw [hu]; decide
  have b6 : (u.txt.toList == [105, 102, 102]) = true := by rw [hu]; decide
  have q1 : (u.txt.toList == [40]) = false := by rw [hu]; decide
  have q2 : (u.txt.toList == [41]) = false := by rw [hu]; decide
  have q3 : u.txt.toList.isEmpty = false := by rw [hu]; decide
  have IH := hide ih
  have H := hide h
  have hrb := h.rbs
  have htb := h.tbs
  have hnb := h.nbs
  have hd0 := h.dlo
  have HTS := hide h.ts
  have hsu : u.txt.size ≤ 600 := h.ts u (by simp)
  have hL1 : us0.length ≤ 599 := by have := h.len; simp at this; omega
  clear h ih hu
  obtain ⟨i0, hi, hz0, hz1, hz2⟩ := info_parts info78
  have HI : Hid (Tryz.prog.info? 172 = some i0 ∧ i0.zero = some (.pointer none) ∧ i0.size = 1 ∧ i0.bytes = 8) := ⟨hi, hz0, hz1, hz2⟩
  clear hi hz0 hz1 hz2
  go_enter Tryz.func160, Tryz.ntmps160
  go_wp2_with (go_at_call 161; refine (rd_next H.out).mono ?_; rintro e w' ⟨rfl, m, rfl⟩)
  have hx0 : Ext (fun _ => False) w ((w.drewN m).alloc (Obj.cells #[.string t.txt, .slice none 0 0, .int .i64 0, .bool false, .string t.txt] 235)) := ((Ext.refl _ w).drewN m).alloc _
  refine (rd_must_open (H.out.ext hx0 (fun f => f) (fun f => f) (fun f => f)) ho hd).mono ?_
  rintro e w1 ⟨rfl, hx1, hr1⟩
  have kb1 : w1.heap[w.heap.size]? = some (.cells #[.string t.txt, .slice none 0 0, .int .i64 0, .bool false, .string t.txt] 235) :=
    (hx1.block _ (block_lt (heap_alloc_new (w.drewN m) _)) (by show ¬ w.heap.size = c.rb; omega)).trans (heap_alloc_new (w.drewN m) _)
  have k10 := cell_of_block kb1 0
  have f10 := frozen_of_block kb1 0
  have k14 := cell_of_block kb1 4
  have f14 := frozen_of_block kb1 4
  have c4 := hr1.c4
  have HX1 : Hid (Ext (· = c.rb) w w1) := (hx0.mono (fun _ _ f => f.elim)).trans hx1
  have KB1 := hide kb1
  have HR1 := hide hr1
  clear hx0 hx1 kb1 hr1
  go_wp2_with (go_at_call 161; refine (rd_next HR1.out).mono ?_; rintro e w' ⟨rfl, m1, rfl⟩)
  have hxs : Ext (· = w.heap.size) w1 (((w1.drewN m1).setCell ⟨w.heap.size, 0, none⟩ (.string u.txt)).setCell ⟨w.heap.size, 4, none⟩ (.string (⟨#[40]⟩ ++ u.txt))) := (((Ext.refl (· = w.heap.size) w1).drewN m1).setCell (p := ⟨w.heap.size, 0, none⟩) (fun _ => rfl) _).setCell (p := ⟨w.heap.size, 4, none⟩) (fun _ => rfl) _
  refine (rd_take_word (HR1.out.ext hxs (by show ¬ c.rb = w.heap.size; omega) (by show ¬ c.tb = w.heap.size; omega) (by show ¬ c.nb = w.heap.size; omega)) q1 q2 q3).mono ?_
  rintro e w2 ⟨rfl, hx2, hr2⟩
  have kbs : (((w1.drewN m1).setCell ⟨w.heap.size, 0, none⟩ (.string u.txt)).setCell ⟨w.heap.size, 4, none⟩ (.string (⟨#[40]⟩ ++ u.txt))).heap[w.heap.size]? = some (.cells #[.string u.txt, .slice none 0 0, .int .i64 0, .bool false, .string (⟨#[40]⟩ ++ u.txt)] 235) := block_setCell (block_setCell (w := w1.drewN m1) KB1.out 0 _) 4 _
  have kb2 : w2.heap[w.heap.size]? = some (.cells #[.string u.txt, .slice none 0 0, .int .i64 0, .bool false, .string (⟨#[40]⟩ ++ u.txt)] 235) :=
    (hx2.block _ (block_lt kbs) (by show ¬ w.heap.size = c.rb; omega)).trans kbs
  have HX2 : Hid (Ext (· = c.rb) w w2) := (HX1.out.trans' hxs (fun i hi e => by omega)).trans hx2
  have KB2 := hide kb2
  have HR2 := hide hr2
  have HF0 : Hid ((ByteArray.mk #[40] ++ u.txt).toList = 40 :: (u.txt.toList ++ [])) := by
    show _ = _
    rw [toList_app, one_byte]; simp
  clear k10 f10 k14 f14 c4 hxs hx2 hr2 kbs kb2 a1 a2 b0 b1 b2 b3 b4 b5 b6
  go_wp2_with fail
  go_loopg [8] 1000 (fun gk _ wr => ∃ (j : Nat) (a : Option Addr) (cap : Nat) (f : ByteArray), gk + j = 1000 ∧ Ext (· = c.rb) w wr ∧ wr.heap[w.heap.size]? = some (.cells #[.string u.txt, .slice a j cap, .int .i64 0, .bool false, .string f] 235) ∧
      ((∃ us ps kids, TLive w c (d + 1) pl (rdForm c.N n (d + 1)) (40 :: u.txt.toList) us0 wr j (.slice a j cap) f us ps kids ∧ j ≤ 2) ∨
       (∃ (e : Int) (p : Nat), (¬ e = 0) ∧ (∃ ts d', Rd wr c ts d' e p) ∧ f.size + 3 ≤ 603 * (us0.length + 2) ∧ rdRow (List.replicate 2 (rdForm c.N n (d + 1))) us0 = .no e p)))
  case atStart =>
    exact ⟨0, none, 0, _, rfl, HX2.out, KB2.out, Or.inl ⟨us0, [], [], ⟨rfl, HR2.out, HF0.out, World.ownsRow_nil _ _ _ _, fun g hg => absurd hg (by simp [Value.ownBlock]), fun i b p hk => absurd hk (by simp)⟩, Nat.zero_le _⟩⟩
  case round =>
    obtain ⟨j, a, cap, f, hgk, hE, kb, hst⟩ := hrel
    have KB := hide kb
    have HE := hide hE
    clear HX2 KB2 HR2 HX1 KB1 HR1 hE
    have k1 := cell_of_block kb 1
    have k4 := cell_of_block kb 4
    have fr4 := frozen_of_block kb 4
    clear kb
    rcases hst with ⟨us, ps, kids, ⟨hrow, hrd, hf, hown, hpv, hkids⟩, hex⟩ | ⟨e, p, he0, ⟨tsx, dx, hrd⟩, hfs, hres⟩
    · obtain ⟨v, vs, rfl⟩ := hrd.head
      have c4 := hrd.c4
      have hb0 : TS us0 := fun x hx => HTS.out x (List.mem_cons_of_mem _ (List.mem_cons_of_mem _ hx))
      have hall : ∀ g ∈ List.replicate j (rdForm c.N n (d + 1)), Fits g := fun g hg => by rw [(List.mem_replicate.1 hg).2]; exact form_fits c.N n (d + 1)
      have hfit := row_fits _ hall us0 ps (v :: vs) hb0 hrow
      have hsh := row_short _ hall us0 ps (v :: vs) hb0 hrow
      rw [List.length_replicate] at hsh
      have hsz := size_of hf
      have hs1l := len_toList u.txt
      have hfb : f.size + 603 * (v :: vs).length ≤ 601 + 603 * us0.length := by
        rw [hsz]; simp at hfit ⊢; omega
      have hplen : ps.length = j := by rw [row_len _ _ _ _ hrow]; simp
      have hvn : (v :: vs).length ≤ n := by omega
      have hjj : (j : Int) ≤ 599 := by omega
      have hfi : f.size ≤ 400000 := by omega
      have HROW := hide hrow
      have HRD := hide hrd
      have HF := hide hf
      have HOWN := hide hown
      have HPV := hide hpv
      have HKIDS := hide hkids
      have HFB := hide hfb
      have HPL := hide hplen
      have HVN := hide hvn
      have HEX := hide hex
      have HSH := hide hsh
      clear hrow hrd hf hown hpv hkids hfb hplen hvn hex hall hfit hsz hb0 hsh hs1l
      by_cases hlt : (j : Int) < 2
      · go_wp2_with fail
        refine (IH.out _ (v :: vs) (d + 1) pl HVN.out HRD.out).mono ?_
        rintro e wt ⟨b, x0, x1, x2, x3, f', rfl, hb, hx, bb, hfs', hsd, hrn⟩
        have hxt : Ext (· = c.rb) wr wt := hx
        have kbt : wt.heap[w.heap.size]? = some (.cells #[.string u.txt, .slice a j cap, .int .i64 0, .bool false, .string f] 235) := (hxt.block _ (block_lt KB.out) (by show ¬ w.heap.size = c.rb; omega)).trans KB.out
        have t1 := cell_of_block kbt 1
        have HOT : Hid (wt.ownsRow 0 172 1 (.slice a j cap) j (kids.map kp)) := own_ext HOWN.out hxt (fun g hg e => by have := HPV.out g hg; omega)
        have HX := hide hx
        have BB := hide bb
        have HSD := hide hsd
        have HRN := hide hrn
        have HB := hide hb
        have HFS := hide hfs'
        have hf'i : f'.size ≤ 400000 := by have h2 := HFS.out; have h3 := HFB.out; omega
        clear hxt kbt hx bb hsd hrn hb hfs' k1 k4 fr4
        obtain ⟨hi, hz0, hz1, hz2⟩ := HI.out
        go_wp2_with (at_builtin; refine wpList_append_own_at _ rfl _ _ 171 rfl 0 172 i0 (.pointer none) 1 8 Tryz.underlying171 hi hz0 hz1 hz2 rfl (by decide) _ _ _ rfl (HOT.out.alloc _) ⟨wt.heap.size, 0, none⟩ 1 1 [.pointer (some ⟨b, 0, none⟩)] rfl rfl ?c1 ?c2 ?c3 ?c4 ?c5 ?_)
        case c1 =>
          intro q u2 hq2
          match q, hq2 with
          | 0, hq2 => simp at hq2; subst hq2; simp [Addr.add]
        case c2 => intro u2 hu2; simp at hu2; subst hu2; rfl
        case c3 => unfold maxLen; omega
        case c4 => omega
        case c5 => omega
        intro v' wa hown' hgrow _ hat
        obtain ⟨ka, kab, hbx, ⟨g, cap', hv', hgx, hgb⟩, hall⟩ := part_step (hd := 40 :: u.txt.toList) HE.out hrb htb hnb HOWN.out HPV.out HKIDS.out HPL.out HF.out KB.out (Ext.refl _ wr) HB.out HX.out BB.out HSD.out HRN.out _ hown' hgrow hat
        have HALL := hide hall
        have a1 := cell_of_block ka 1
        have a4 := cell_of_block ka 4
        have fa1 := frozen_of_block ka 1
        have fa4 := frozen_of_block ka 4
        have b4 := cell_of_block kab 4
        have KA := hide ka
        clear hall ka kab hown' hgrow hat hi hz0 hz1 hz2 t1
        subst hv'
        go_wp2_with fail
        go_region
        go_wp2_with fail
        go_roundg (gk - 1)
        case measure => omega
        case rel =>
          have hW : Ext (· = w.heap.size) wa (((wa.setCell ⟨w.heap.size, 1, none⟩ (.slice (some ⟨g, 0, none⟩) (j + 1) cap')).setCell ⟨w.heap.size, 4, none⟩ (.string (f ++ ⟨#[32]⟩ ++ f'))).drew) :=
            (((Ext.refl (· = w.heap.size) wa).setCell (p := ⟨w.heap.size, 1, none⟩) (fun _ => rfl) _).setCell (p := ⟨w.heap.size, 4, none⟩) (fun _ => rfl) _).drew
          have kW := block_setCell (block_setCell KA.out 1 (.slice (some ⟨g, 0, none⟩) (j + 1) cap')) 4 (.string (f ++ ⟨#[32]⟩ ++ f'))
          obtain ⟨q1, q2, q3, q4, q5⟩ := HALL.out _ hW kW
          refine ⟨j + 1, _, _, _, by omega, q1, kW, ?_⟩
          cases hrt : rdForm c.N n (d + 1) (v :: vs) with
          | ok nd vs' =>
            rw [hrt] at q2
            obtain ⟨q6, q7⟩ := q5 nd vs' hrt
            exact Or.inl ⟨vs', ps ++ [nd], kids ++ [b], ⟨row_snoc_ok HROW.out hrt, q2, q6, q4, q3, q7⟩, by omega⟩
          | no e p =>
            rw [hrt] at q2
            obtain ⟨h0, ts', d', hr⟩ := q2
            refine Or.inr ⟨e, p, h0, ⟨ts', d', hr⟩, ?_, row_snoc_no HROW.out hrt (by omega)⟩
            have g1 := HFS.out
            have g2 := HFB.out
            simp only [ByteArray.size_append']
            have g4 : (ByteArray.mk #[32]).size = 1 := rfl
            omega
      · cases hq : (v.txt.toList == [41]) with
        | true =>
          have hcl : rdRow (List.replicate 2 (rdForm c.N n (d + 1))) us0 = .ok ps (v :: vs) := by
            have h2 : 2 = j := by have h1 := HEX.out; omega
            rw [h2]; exact HROW.out
          have HCL := hide hcl
          clear hcl
          go_wp2_with first
            | (go_at_call 199; refine (rd_must_close HRD.out hq (by omega)).mono ?_; rintro e w5 ⟨rfl, hx, hr⟩
               have hxw : Ext (· = c.rb) wr w5 := hx
               have k5 : w5.heap[w.heap.size]? = some (.cells #[.string u.txt, .slice a j cap, .int .i64 0, .bool false, .string f] 235) := (hxw.block _ (block_lt KB.out) (by show ¬ w.heap.size = c.rb; omega)).trans KB.out
               have k54 := cell_of_block k5 4
               have f54 := frozen_of_block k5 4
               have K5 := hide k5
               have HX5 := hide hxw
               have HR5 := hide hr
               clear k5 hx hr hxw)
          go_ret
          have hxw := HX5.out
          have hxe : Ext (· = w.heap.size) w5 (w5.setCell ⟨w.heap.size, 4, none⟩ (.string (f ++ ⟨#[41]⟩))) := (Ext.refl (· = w.heap.size) w5).setCell (p := ⟨w.heap.size, 4, none⟩) (fun _ => rfl) _
          have kW := block_setCell K5.out 4 (.string (f ++ ⟨#[41]⟩))
          have hr := HR5.out.ext hxe (by show ¬ c.rb = w.heap.size; omega) (by show ¬ c.tb = w.heap.size; omega) (by show ¬ c.nb = w.heap.size; omega)
          rw [show d + 1 - 1 = d from by omega] at hr
          rw [HCL.out, rdCloses, rdShut, if_pos (by simpa using hq)]
          have g1 := HFB.out
          have g4 : (ByteArray.mk #[41]).size = 1 := rfl
          refine ⟨w.heap.size, _, _, _, _, _, rfl, Nat.le_refl _, (HE.out.trans hxw).trans' hxe (fun i hi e => by omega), kW, ?_, hr, ?_⟩
          · simp only [ByteArray.size_append']; simp at g1 ⊢; omega
          · intro nd ts' e
            injection e with e1 e2
            subst e1
            refine RN.mk (pv := .slice a j cap) (form := f ++ ⟨#[41]⟩) (kids := kids) ?_ (Nat.le_refl _) ?_ ?_ (fun g hg => Nat.le_of_lt (HPV.out g hg)) ?_
            · exact kW
            · rw [formOf, if_pos (Or.inl rfl), tokOf, if_neg (by decide), toList_app, HF.out, one_byte]; simp
            · rw [rps, if_neg (by decide), HPL.out]
              exact own_ext (own_ext HOWN.out hxw (fun g hg e => by have := HPV.out g hg; omega)) hxe (fun g hg e => by have := HPV.out g hg; omega)
            · intro i q p hq1 hq2
              rw [rps, if_neg (by decide)] at hq2
              have h1 := HKIDS.out i q p hq1 hq2
              have h2 := h1.ext hxw (fun k _ hk e => by have := hk.1; omega)
              have h3 := h2.ext hxe (fun k _ hk e => by have := hk.1; omega)
              exact h3.mono (fun k _ hk => Nat.le_of_lt hk.1)
        | false => 
          have hcl : rdRow (List.replicate 2 (rdForm c.N n (d + 1))) us0 = .ok ps (v :: vs) := by
            have h2 : 2 = j := by have h1 := HEX.out; omega
            rw [h2]; exact HROW.out
          have HCL := hide hcl
          clear hcl
          have HQ : Hid ((v.txt.toList == (ByteArray.mk #[41]).toList) = false) := by
            show _ = _
            rw [one_byte]; exact hq
          go_wp2_with first
            | (go_at_call 199; refine (rd_must_no _ HRD.out HQ.out).mono ?_; rintro e w5 ⟨rfl, hx, hr⟩
               have k5 : w5.heap[w.heap.size]? = some (.cells #[.string u.txt, .slice a j cap, .int .i64 0, .bool false, .string f] 235) := (hx.block _ (block_lt KB.out) (by show ¬ w.heap.size = c.rb; omega)).trans KB.out
               have k54 := cell_of_block k5 4
               have f54 := frozen_of_block k5 4
               have K5 := hide k5
               have HX5 := hide hx
               have HR5 := hide hr
               clear k5 hx hr)
          go_ret
          have g1 := HFB.out
          have hre : rdCloses 2 1 u.txt (rdRow (List.replicate 2 (rdForm c.N n (d + 1))) us0) = .no 2 v.pos := by
            rw [HCL.out, rdCloses, rdShut, if_neg (by simpa using hq)]
            split <;> rfl
          rw [hre]
          exact dead_end (HE.out.trans HX5.out) hrb htb hnb K5.out HR5.out (by decide) (by simp at g1 ⊢; omega)
    · have he0' : (e == 0) = false := by simpa using he0
      have c4 := hrd.c4
      have HRD := hide hrd
      have HRES := hide hres
      have HFS := hide hfs
      have hfi : f.size ≤ 400000 := by omega
      clear hrd hfs hres
      go_wp2_with (go_at_call 199; refine (rd_must_dead _ HRD.out he0).mono ?_; rintro e w' ⟨rfl, m3, rfl⟩)
      go_ret
      rw [HRES.out]
      exact dead_end (w5 := wr.drewN m3) (HE.out.drewN _) hrb htb hnb KB.out (HRD.out.drewN _) he0 (by have := HFS.out; simp; omega)

end Go.Proofs.YtegbdaffhpiacaaGreatDoor
