/- The reader of the document's own answer: atoms. -/
import Derived.Test.YtegbdaffhpiacaaGreatDoorOwn09
import Derived.Deep.RegionWith
namespace Go.Proofs.YtegbdaffhpiacaaGreatDoor
open Go.RowKit Ar

set_option maxRecDepth 100000 in
set_option maxHeartbeats 1000000 in
theorem form_le {w : World} {c : Ctx} {t u : Tk} {us0 : List Tk} {d pl : Int} {n : Nat} (h : Rd w c (t :: u :: us0) d 0 pl) (ho : (t.txt.toList == [40]) = true) (hd : d < 30) (hu : u.txt.toList = [108, 101]) (hn : us0.length < n) :
    Calls Tryz.prog 160 #[.pointer (some ⟨c.rb, 0, none⟩)] w (TermPost w c (t :: u :: us0) d pl (rdCloses 2 2 u.txt (rdRow [rdTerm c.N n (d + 1), rdTerm c.N n (d + 1), rdNum 5] us0))) := by
  have a1 : (t.txt.toList == [116, 114, 117, 101]) = false := by rw [beq_iff_eq.1 ho]; decide
  have a2 : (t.txt.toList == [102, 97, 108, 115, 101]) = false := by rw [beq_iff_eq.1 ho]; decide
  have b0 : (u.txt.toList == [61]) = false := by rw [hu]; decide
  have b1 : (u.txt.toList == [60]) = false := by rw [hu]; decide
  have b2 : (u.txt.toList == [60, 61]) = false := by rw [hu]; decide
  have b9 : (u.txt.toList == [108, 101]) = true := by rw [hu]; decide
  have q1 : (u.txt.toList == [40]) = false := by rw [hu]; decide
  have q2 : (u.txt.toList == [41]) = false := by rw [hu]; decide
  have q3 : u.txt.toList.isEmpty = false := by rw [hu]; decide
  have H := hide h
  have hrb := h.rbs
  have htb := h.tbs
  have hnb := h.nbs
  have hd0 := h.dlo
  have HTS := hide h.ts
  have hsu : u.txt.size ≤ 600 := h.ts u (by simp)
  have hL1 : us0.length ≤ 599 := by have := h.len; simp at this; omega
  clear h hu
  go_enter Tryz.func160, Tryz.ntmps160
  go_wp2_with (go_at_call 161; refine (rd_next H.out).mono ?_; rintro e w' ⟨rfl, m, rfl⟩)
  have hx0 : Ext (fun _ => False) w ((w.drewN m).alloc (Obj.cells #[.string t.txt, .slice none 0 0, .int .i64 0, .bool false, .string t.txt] 235)) := ((Ext.refl _ w).drewN m).alloc _
  refine (rd_must_open (H.out.ext hx0 (fun f => f) (fun f => f) (fun f => f)) ho hd).mono ?_
  rintro e w1 ⟨rfl, hx1, hr1⟩
  have kb1 : w1.heap[w.heap.size]? = some (.cells #[.string t.txt, .slice none 0 0, .int .i64 0, .bool false, .string t.txt] 235) :=
    (hx1.block _ (block_lt (heap_alloc_new (w.drewN m) _)) (by show ¬ w.heap.size = c.rb; omega)).trans (heap_alloc_new (w.drewN m) _)
  have k10 := cell_of_block kb1 0
  have f10 := frozen_of_block kb1 0
  have k14 := cell_of_block kb1 4
  have f14 := frozen_of_block kb1 4
  have c4 := hr1.c4
  have HX1 : Hid (Ext (· = c.rb) w w1) := (hx0.mono (fun _ _ f => f.elim)).trans hx1
  have KB1 := hide kb1
  have HR1 := hide hr1
  clear hx0 hx1 kb1 hr1
  go_wp2_with (go_at_call 161; refine (rd_next HR1.out).mono ?_; rintro e w' ⟨rfl, m1, rfl⟩)
  have hxs : Ext (· = w.heap.size) w1 (((w1.drewN m1).setCell ⟨w.heap.size, 0, none⟩ (.string u.txt)).setCell ⟨w.heap.size, 4, none⟩ (.string (⟨#[40]⟩ ++ u.txt))) := (((Ext.refl (· = w.heap.size) w1).drewN m1).setCell (p := ⟨w.heap.size, 0, none⟩) (fun _ => rfl) _).setCell (p := ⟨w.heap.size, 4, none⟩) (fun _ => rfl) _
  refine (rd_take_word (HR1.out.ext hxs (by show ¬ c.rb = w.heap.size; omega) (by show ¬ c.tb = w.heap.size; omega) (by show ¬ c.nb = w.heap.size; omega)) q1 q2 q3).mono ?_
  rintro e w2 ⟨rfl, hx2, hr2⟩
  have kbs : (((w1.drewN m1).setCell ⟨w.heap.size, 0, none⟩ (.string u.txt)).setCell ⟨w.heap.size, 4, none⟩ (.string (⟨#[40]⟩ ++ u.txt))).heap[w.heap.size]? = some (.cells #[.string u.txt, .slice none 0 0, .int .i64 0, .bool false, .string (⟨#[40]⟩ ++ u.txt)] 235) := block_setCell (block_setCell (w := w1.drewN m1) KB1.out 0 _) 4 _
  have kb2 : w2.heap[w.heap.size]? = some (.cells #[.string u.txt, .slice none 0 0, .int .i64 0, .bool false, .string (⟨#[40]⟩ ++ u.txt)] 235) :=
    (hx2.block _ (block_lt kbs) (by show ¬ w.heap.size = c.rb; omega)).trans kbs
  have HX2 : Hid (Ext (· = c.rb) w w2) := (HX1.out.trans' hxs (fun i hi e => by omega)).trans hx2
  have KB2 := hide kb2
  have HR2 := hide hr2
  have HF0 : Hid ((ByteArray.mk #[40] ++ u.txt).toList = 40 :: (u.txt.toList ++ [])) := by
    show _ = _
    rw [toList_app, one_byte]; simp
  clear k10 f10 k14 f14 c4 hxs hx2 hr2 kbs kb2 a1 a2
  go_wp2_with fail
  refine (term_any c n _ us0 (d + 1) pl (by omega) HR2.out).mono ?_
  rintro e wa ⟨ba, x0, x1, x2, x3, fa, rfl, hba, hxa, kba, hfa, hsa, hra⟩
  have kxa : wa.heap[w.heap.size]? = some (.cells #[.string u.txt, .slice none 0 0, .int .i64 0, .bool false, .string (⟨#[40]⟩ ++ u.txt)] 235) := (hxa.block _ (block_lt KB2.out) (by show ¬ w.heap.size = c.rb; omega)).trans KB2.out
  have HXA : Hid (Ext (· = c.rb) w wa) := HX2.out.trans hxa
  have KXA := hide kxa
  have KBA := hide kba
  have HBA : Hid (w.heap.size < ba) := by have := block_lt KB2.out; show _ < _; omega
  have HRA := hide hra
  have HFA := hide hfa
  clear kxa kba hba hxa hra hfa
  cases hrt : rdTerm c.N n (d + 1) us0 with
  | no e p =>
    rw [hrt] at hsa
    obtain ⟨he0, ts', d', hr⟩ := hsa
    have he0' : (e == 0) = false := by simpa using he0
    have c4 := hr.c4
    have HR := hide hr
    have hre : rdCloses 2 2 u.txt (rdRow [rdTerm c.N n (d + 1), rdTerm c.N n (d + 1), rdNum 5] us0) = .no e p := by
      simp only [rdRow, hrt]; rfl
    have HRE := hide hre
    clear hr hre
    go_wp2_with fail
    go_ret
    rw [HRE.out]
    have g0 := size_of HF0.out
    have g1 := len_toList u.txt
    refine ⟨w.heap.size, _, _, _, _, _, rfl, Nat.le_refl _, HXA.out, KXA.out, by rw [g0]; simp; omega, ⟨he0, _, _, HR.out⟩, fun nd ts' e => absurd e (by simp)⟩
  | ok nda us1 =>
    rw [hrt] at hsa
    have hsa' : Rd wa c us1 (d + 1) 0 pl := hsa
    have hfits := term_fits c.N n (d + 1) us0 nda us1 (fun x hx => HTS.out x (List.mem_cons_of_mem _ (List.mem_cons_of_mem _ hx))) hrt
    have hrna := HRA.out nda us1 hrt
    have c4 := hsa'.c4
    have HSA := hide hsa'
    have HRT := hide hrt
    have HFITS := hide hfits
    have HRNA := hide hrna
    clear hsa hsa' hrt hfits hrna HRA
    go_wp2_with fail
    refine (term_any c n _ us1 (d + 1) pl (by have := HFITS.out.1; omega) HSA.out).mono ?_
    rintro e wb ⟨bb, y0, y1, y2, y3, fb, rfl, hbb, hxb, kbb, hfb, hsb, hrb2⟩
    have hsza := block_lt KBA.out
    have hszx := block_lt KXA.out
    have hszb := block_lt kbb
    have h2 := HBA.out
    have kxb := (hxb.block _ hszx (by show ¬ w.heap.size = c.rb; omega)).trans KXA.out
    have kab := (hxb.block _ hsza (by show ¬ ba = c.rb; omega)).trans KBA.out
    have hwab := hxb.size
    have m1' := cell_of_block kxb 1
    have m1f := frozen_of_block kxb 1
    have m0' := cell_of_block kxb 0
    have m4' := cell_of_block kxb 4
    have m4f := frozen_of_block kxb 4
    have n4 := cell_of_block kab 4
    have o4 := cell_of_block kbb 4
    have hbx1 : ¬ ba = w.heap.size := by omega
    have hbx2 : ¬ bb = w.heap.size := by omega
    have hx9 : w.heap.size < wb.heap.size := by omega
    have ha9 : ba < wb.heap.size := by omega
    have hr9 : c.rb < wb.heap.size := by omega
    have hrn9 : ¬ c.rb = w.heap.size := by omega
    have hrn8 : ¬ w.heap.size = c.rb := by omega
    have hfa2 : fa.size ≤ 400000 := by have := HFA.out; omega
    have hfb2 : fb.size ≤ 400000 := by have := hfb; have := HFITS.out.1; omega
    have HXB := hide hxb
    have KXB := hide kxb
    have KAB := hide kab
    have KBB := hide kbb
    have HFB := hide hfb
    have HRB := hide hrb2
    clear hxb kxb kab kbb hfb hrb2 c4
    obtain ⟨F, hF⟩ : ∃ F, (⟨#[40]⟩ ++ u.txt ++ ⟨#[32]⟩ ++ fa ++ ⟨#[32]⟩ ++ fb : ByteArray) = F := ⟨_, rfl⟩
    have HFF := hide hF
    obtain ⟨W4, hW4⟩ : ∃ W4, (((wb.setCell ⟨w.heap.size, 1, none⟩ (.slice (some ⟨wb.heap.size, 0, none⟩) 2 2)).setCell ⟨w.heap.size, 4, none⟩ (.string F)).alloc (Obj.cells #[.pointer (some ⟨ba, 0, none⟩), .pointer (some ⟨bb, 0, none⟩)] 172)).drew = W4 := ⟨_, rfl⟩
    have hsz4 : ((wb.setCell ⟨w.heap.size, 1, none⟩ (.slice (some ⟨wb.heap.size, 0, none⟩) 2 2)).setCell ⟨w.heap.size, 4, none⟩ (.string F)).heap.size = wb.heap.size := by simp [World.setCell]
    have hx4 : Ext (· = w.heap.size) wb W4 := by
      rw [← hW4]
      exact ((((Ext.refl (· = w.heap.size) wb).setCell (p := ⟨w.heap.size, 1, none⟩) (fun _ => rfl) _).setCell (p := ⟨w.heap.size, 4, none⟩) (fun _ => rfl) _).alloc _).drew
    have kx4 : W4.heap[w.heap.size]? = some (.cells #[.string u.txt, .slice (some ⟨wb.heap.size, 0, none⟩) 2 2, .int .i64 0, .bool false, .string F] 235) := by
      rw [← hW4]
      exact (Below.heap_alloc _ _ _ (by rw [hsz4]; exact hx9)).trans (block_setCell (block_setCell KXB.out 1 _) 4 _)
    have kg4 : W4.heap[wb.heap.size]? = some (.cells #[.pointer (some ⟨ba, 0, none⟩), .pointer (some ⟨bb, 0, none⟩)] 172) := by
      rw [← hW4]
      have h9 := alloc_new_drew (w := (wb.setCell ⟨w.heap.size, 1, none⟩ (.slice (some ⟨wb.heap.size, 0, none⟩) 2 2)).setCell ⟨w.heap.size, 4, none⟩ (.string F)) (Obj.cells #[.pointer (some ⟨ba, 0, none⟩), .pointer (some ⟨bb, 0, none⟩)] 172)
      rw [hsz4] at h9
      exact h9
    have HX4w : Hid (Ext (· = c.rb) w W4) := (HXA.out.trans HXB.out).trans' hx4 (fun i hi e => by omega)
    have hs4 := hsb.ext hx4 (by show ¬ c.rb = w.heap.size; omega) (by show ¬ c.tb = w.heap.size; omega) (by show ¬ c.nb = w.heap.size; omega)
    have HX4 := hide hx4
    have KX4 := hide kx4
    have KG4 := hide kg4
    have hFs : F.size = 1 + u.txt.size + 1 + fa.size + 1 + fb.size := by
      rw [← hF]; simp only [ByteArray.size_append']
      have g1 : (ByteArray.mk #[40]).size = 1 := rfl
      have g2 : (ByteArray.mk #[32]).size = 1 := rfl
      omega
    have hFi : F.size ≤ 2000000 := by omega
    have HFS : Hid (F.size + 3 ≤ 603 * (us0.length + 2)) := by
      show _ ≤ _
      have g1 := HFB.out
      have g2 := HFITS.out.1
      obtain ⟨z0, z1, z2, z3, fz, hz, hzf⟩ := HRNA.out.form
      have ez : fa = fz := by
        rw [KBA.out] at hz
        simp at hz
        exact hz.2.2.2.2
      have g3 := size_of hzf
      rw [← ez] at g3
      omega
    have HW4 := hide hW4
    clear hF hW4 hx4 kx4 kg4 hsz4 hFs
    cases hrt2 : rdTerm c.N n (d + 1) us1 with
    | no e p =>
      rw [hrt2] at hs4 hsb
      obtain ⟨he0, ts', d', hr⟩ := hs4
      have he0' : (e == 0) = false := by simpa using he0
      have c4 : wb.cell? ⟨c.rb, 4, none⟩ = some (.int .i64 e) := by
        obtain ⟨_, ts2, d2, hr2⟩ := hsb
        exact hr2.c4
      have HR := hide hr
      have hre : rdCloses 2 2 u.txt (rdRow [rdTerm c.N n (d + 1), rdTerm c.N n (d + 1), rdNum 5] us0) = .no e p := by
        simp only [rdRow, HRT.out, hrt2]; rfl
      have HRE := hide hre
      clear hr hre hsb hrt2
      go_wp2_with fail
      go_region
      go_wp2_with fail
      rw [HFF.out, HW4.out]
      refine (rd_must_dead _ HR.out he0).mono ?_
      rintro e w' ⟨rfl, m3, rfl⟩
      have x44 := cell_of_block KX4.out 4
      have x44f := frozen_of_block KX4.out 4
      go_wp2_with fail
      go_ret
      rw [HRE.out]
      exact dead_end (w5 := W4.drewN m3) (HX4w.out.drewN _) hrb htb hnb KX4.out (HR.out.drewN _) he0 (by have := HFS.out; simp; omega)
    | ok ndb us2 =>
      rw [hrt2] at hs4 hsb
      have hs4' : Rd W4 c us2 (d + 1) 0 pl := hs4
      obtain ⟨z, zs, rfl⟩ := hs4'.head
      have c4 : wb.cell? ⟨c.rb, 4, none⟩ = some (.int .i64 0) := Rd.c4 hsb
      have HR := hide hs4'
      have hrnb := HRB.out ndb (z :: zs) hrt2
      have HRNB := hide hrnb
      have HRT2 := hide hrt2
      have hzs : z.txt.size ≤ 600 := hs4'.ts z (by simp)
      clear hs4 hs4' hrt2 hrnb hsb
      go_wp2_with fail
      go_region
      go_wp2_with fail
      rw [HFF.out, HW4.out]
      have x44 := cell_of_block KX4.out 4
      have x44f := frozen_of_block KX4.out 4
      clear c4 m1' m1f m0' m4' m4f n4 o4
      go_region_with (go_at_call 161; refine (rd_next (HR.out.drewN 1)).mono ?_; rintro e w' ⟨rfl, m3, rfl⟩)
      all_goals
        go_wp2_with fail
        obtain ⟨G, hG⟩ : ∃ G, F ++ (⟨#[32]⟩ : ByteArray) ++ z.txt = G := ⟨_, rfl⟩
        rw [hG]
        have hGs : G.size = F.size + 1 + z.txt.size := by
          rw [← hG]; simp only [ByteArray.size_append']
          have g2 : (ByteArray.mk #[32]).size = 1 := rfl
          omega
        have HGG := hide hG
        have hxg : Ext (· = w.heap.size) W4 ((W4.drewN (1 + m3)).setCell ⟨w.heap.size, 4, none⟩ (.string G)) := ((Ext.refl (· = w.heap.size) W4).drewN _).setCell (p := ⟨w.heap.size, 4, none⟩) (fun _ => rfl) _
        have kxg : ((W4.drewN (1 + m3)).setCell ⟨w.heap.size, 4, none⟩ (.string G)).heap[w.heap.size]? = _ := block_setCell (w := W4.drewN (1 + m3)) KX4.out 4 (.string G)
        refine (sd_number (HR.out.ext hxg (by show ¬ c.rb = w.heap.size; omega) (by show ¬ c.tb = w.heap.size; omega) (by show ¬ c.nb = w.heap.size; omega))).mono ?_
        rintro e w6 ⟨v, rfl, hx6, hs6, hv6⟩
        have k6 : w6.heap[w.heap.size]? = some (.cells #[.string u.txt, .slice (some ⟨wb.heap.size, 0, none⟩) 2 2, .int .i64 0, .bool false, .string G] 235) := (hx6.block _ (block_lt kxg) (by show ¬ w.heap.size = c.rb; omega)).trans kxg
        have k62 := cell_of_block k6 2
        have f62 := frozen_of_block k6 2
        have k64 := cell_of_block k6 4
        have f64 := frozen_of_block k6 4
        have HXG := hide hxg
        have HX6 := hide hx6
        have HS6 := hide hs6
        have HV6 := hide hv6
        have K6 := hide k6
        have HGS : Hid (G.size + 2 ≤ 603 * (us0.length + 2)) := by
          show _ ≤ _
          have g1 := HFB.out
          have g2 := HFITS.out.1
          obtain ⟨z0, z1, z2, z3, fz, hz, hzf⟩ := HRNA.out.form
          have ez : fa = fz := by
            rw [KBA.out] at hz
            simp at hz
            exact hz.2.2.2.2
          obtain ⟨y0', y1', y2', y3', fy, hy, hyf⟩ := HRNB.out.form
          have ey : fb = fy := by
            rw [KBB.out] at hy
            simp at hy
            exact hy.2.2.2.2
          have g3 := size_of hzf
          have g4 := size_of hyf
          rw [← ez] at g3
          rw [← ey] at g4
          have g5 := (term_fits c.N n (d + 1) us1 ndb (z :: zs) HFITS.out.2 HRT2.out).1
          have g6 : F.size = 1 + u.txt.size + 1 + fa.size + 1 + fb.size := by
            rw [← HFF.out]; simp only [ByteArray.size_append']
            have g1 : (ByteArray.mk #[40]).size = 1 := rfl
            have g2 : (ByteArray.mk #[32]).size = 1 := rfl
            omega
          simp at g5
          omega
        clear hG hxg kxg hx6 hs6 hv6 k6 x44 x44f
        go_wp2_with fail
        have hxy : Ext (· = w.heap.size) w6 (w6.setCell ⟨w.heap.size, 2, none⟩ (.int .i64 v)) := (Ext.refl (· = w.heap.size) w6).setCell (p := ⟨w.heap.size, 2, none⟩) (fun _ => rfl) _
        obtain ⟨W7, hW7⟩ : ∃ W7, w6.setCell ⟨w.heap.size, 2, none⟩ (.int .i64 v) = W7 := ⟨_, rfl⟩
        have k7 : W7.heap[w.heap.size]? = some (.cells #[.string u.txt, .slice (some ⟨wb.heap.size, 0, none⟩) 2 2, .int .i64 v, .bool false, .string G] 235) := by
          rw [← hW7]; exact block_setCell K6.out 2 _
        rw [hW7] at hxy ⊢
        have HS7 := hide (HS6.out.ext hxy (by show ¬ c.rb = w.heap.size; omega) (by show ¬ c.tb = w.heap.size; omega) (by show ¬ c.nb = w.heap.size; omega))
        have HX7 : Hid (Ext (· = c.rb) w W7) := ((HX4w.out.trans' HXG.out (fun i hi e => by omega)).trans HX6.out).trans' hxy (fun i hi e => by omega)
        have HXY := hide hxy
        have K7 := hide k7
        have k74 := cell_of_block k7 4
        have f74 := frozen_of_block k7 4
        clear hxy hW7 k7 k62 f62 k64 f64
        cases hrn : rdNum 5 (z :: zs) with
        | no e p =>
          have hs7 := HS7.out
          rw [hrn] at hs7
          obtain ⟨he0, ts', d', hr⟩ := hs7
          have HRx := hide hr
          have hre : rdCloses 2 2 u.txt (rdRow [rdTerm c.N n (d + 1), rdTerm c.N n (d + 1), rdNum 5] us0) = .no e p := by
            simp only [rdRow, HRT.out, HRT2.out, hrn]; rfl
          have HRE := hide hre
          clear hr hre hrn
          refine (rd_must_dead _ HRx.out he0).mono ?_
          rintro e w' ⟨rfl, m8, rfl⟩
          go_wp2_with fail
          go_ret
          rw [HRE.out]
          exact dead_end (w5 := W7.drewN m8) (HX7.out.drewN _) hrb htb hnb K7.out (HRx.out.drewN _) he0 (by have := HGS.out; simp; omega)
        | ok nd3 us3 =>
          have hs7 := HS7.out
          rw [hrn] at hs7
          have hs7' : Rd W7 c us3 (d + 1) 0 pl := hs7
          obtain ⟨v8, vs8, rfl⟩ := hs7'.head
          have HRx := hide hs7'
          obtain ⟨hnd3, hit⟩ := HV6.out nd3 (v8 :: vs8) hrn
          have hre : rdCloses 2 2 u.txt (rdRow [rdTerm c.N n (d + 1), rdTerm c.N n (d + 1), rdNum 5] us0) = rdShut 2 2 u.txt [nda, ndb, nd3] (v8 :: vs8) := by
            simp only [rdRow, HRT.out, HRT2.out, hrn]; rfl
          have HRE := hide hre
          have HND := hide hnd3
          have HIT := hide hit
          clear hs7 hs7' hre hrn hnd3 hit
          cases hq : (v8.txt.toList == [41]) with
          | true =>
            refine (rd_must_close HRx.out hq (by omega)).mono ?_
            rintro e w5 ⟨rfl, hx, hr⟩
            have k5 := (hx.block _ (block_lt K7.out) (by show ¬ w.heap.size = c.rb; omega)).trans K7.out
            have k54 := cell_of_block k5 4
            have f54 := frozen_of_block k5 4
            have K5 := hide k5
            have HX5 := hide hx
            have HR5 := hide hr
            clear k5 hx hr
            go_wp2_with fail
            go_ret
            have hxe : Ext (· = w.heap.size) w5 (w5.setCell ⟨w.heap.size, 4, none⟩ (.string (G ++ ⟨#[41]⟩))) := (Ext.refl (· = w.heap.size) w5).setCell (p := ⟨w.heap.size, 4, none⟩) (fun _ => rfl) _
            have kW := block_setCell K5.out 4 (.string (G ++ ⟨#[41]⟩))
            have hr := HR5.out.ext hxe (by show ¬ c.rb = w.heap.size; omega) (by show ¬ c.tb = w.heap.size; omega) (by show ¬ c.nb = w.heap.size; omega)
            rw [show d + 1 - 1 = d from by omega] at hr
            rw [HRE.out, rdShut, if_pos (by simpa using hq)]
            have g4 : (ByteArray.mk #[41]).size = 1 := rfl
            refine ⟨w.heap.size, _, _, _, _, _, rfl, Nat.le_refl _, (HX7.out.trans HX5.out).trans' hxe (fun i hi e => by omega), kW, ?_, hr, ?_⟩
            · have := HGS.out
              simp only [ByteArray.size_append']; simp; omega
            · intro nd ts' e
              injection e with e1 e2
              subst e1
              have kgg := (HXG.out.block _ (block_lt KG4.out) (by show ¬ wb.heap.size = w.heap.size; omega)).trans KG4.out
              have kg6 := (HX6.out.block _ (block_lt kgg) (by show ¬ wb.heap.size = c.rb; omega)).trans kgg
              have kg7 := (HXY.out.block _ (block_lt kg6) (by show ¬ wb.heap.size = w.heap.size; omega)).trans kg6
              have kg5 := (HX5.out.block _ (block_lt kg7) (by show ¬ wb.heap.size = c.rb; omega)).trans kg7
              have kgW := (hxe.block _ (block_lt kg5) (by show ¬ wb.heap.size = w.heap.size; omega)).trans kg5
              obtain ⟨z0, z1, z2, z3, fz, hz, hzf⟩ := HRNA.out.form
              have ez : fa = fz := by
                rw [KBA.out] at hz
                simp at hz
                exact hz.2.2.2.2
              obtain ⟨y0', y1', y2', y3', fy, hy, hyf⟩ := HRNB.out.form
              have ey : fb = fy := by
                rw [KBB.out] at hy
                simp at hy
                exact hy.2.2.2.2
              have up : ∀ q p, RN wb (w.heap.size < ·) q p → RN (w5.setCell ⟨w.heap.size, 4, none⟩ (.string (G ++ ⟨#[41]⟩))) (w.heap.size ≤ ·) q p := by
                intro q p h1
                have h2 := h1.ext HX4.out (fun k _ hk e => by omega)
                have h3 := h2.ext HXG.out (fun k _ hk e => by omega)
                have h4 := h3.ext HX6.out (fun k _ hk e => by omega)
                have h5 := h4.ext HXY.out (fun k _ hk e => by omega)
                have h6 := h5.ext HX5.out (fun k _ hk e => by omega)
                have h7 := h6.ext hxe (fun k _ hk e => by omega)
                exact h7.mono (fun k _ hk => by omega)
              have h6 := block_lt KB2.out
              rw [HND.out]
              refine atom_tree (by' := v) (g := wb.heap.size) (ba := ba) (bb := bb) (F := G ++ ByteArray.mk #[41]) hx9 rfl kW kgW ?_ ?_ ?_
              · rw [formOf, if_pos (Or.inr (Or.inl rfl)), tokOf, if_neg (by decide), toList_app, ← HGG.out, ← HFF.out, one_byte]
                simp only [toList_app, one_byte, formsOf, ez, ey, hzf, hyf]
                have e9 : formOf (.mk 5 ByteArray.empty v []) = z.txt.toList := by
                  rw [formOf, if_neg (by simp), tokOf, if_pos (Or.inr rfl)]; exact HIT.out
                rw [e9]
                simp
              · exact up _ _ ((HRNA.out.ext HXB.out (fun k _ hk e => by omega)).mono (fun k _ hk => by omega))
              · exact up _ _ (HRNB.out.mono (fun k _ hk => by omega))
          | false =>
            have HQ : Hid ((v8.txt.toList == (ByteArray.mk #[41]).toList) = false) := by
              show _ = _
              rw [one_byte]; exact hq
            refine (rd_must_no _ HRx.out HQ.out).mono ?_
            rintro e w5 ⟨rfl, hx, hr⟩
            have k5 := (hx.block _ (block_lt K7.out) (by show ¬ w.heap.size = c.rb; omega)).trans K7.out
            have k54 := cell_of_block k5 4
            have f54 := frozen_of_block k5 4
            have K5 := hide k5
            have HX5 := hide hx
            have HR5 := hide hr
            clear k5 hx hr
            go_wp2_with fail
            go_ret
            have hre : rdCloses 2 2 u.txt (rdRow [rdTerm c.N n (d + 1), rdTerm c.N n (d + 1), rdNum 5] us0) = .no 2 v8.pos := by
              rw [HRE.out, rdShut, if_neg (by simpa using hq)]
              split <;> rfl
            rw [hre]
            exact dead_end (HX7.out.trans HX5.out) hrb htb hnb K5.out HR5.out (by decide) (by have := HGS.out; simp; omega)

end Go.Proofs.YtegbdaffhpiacaaGreatDoor
