/- The program's reader: a term in brackets, a term. -/
import Derived.Test.YtihpglkehkgioaaGreatDoorOwn14
import Derived.Test.YtihpglkehkgioaaGreatDoorOwn15
namespace Go.Proofs.YtihpglkehkgioaaGreatDoor
open Go.RowKit Ar

set_option maxRecDepth 100000 in
set_option maxHeartbeats 400000 in
theorem p_app_deep {w : World} {c : PCtx} {t : Tk} {ts : List Tk} {d pl er : Int} (h : PR w c (t :: ts) d pl er) (hd : 30 ≤ d) :
    Calls Tryz.prog 122 #[.pointer (some ⟨c.rb, 0, none⟩)] w (PPost w c d pl er (.no 6 t.pos)) := by
  have F0 := fld0
  have F2 := fld2
  have hrb := h.rbs
  have hrn : ¬ w.heap.size = c.rb := by omega
  have htb := h.tbs
  have hsb := h.sbs
  have HNV := hide h.nvs
  have HX0 : Hid (Ext (fun _ => False) w (w.alloc (.cells #[.int .i64 0, .string ⟨#[]⟩, .int .i64 0, .slice none 0 0] 72))) := (Ext.refl _ w).alloc _
  have H0 := hide (h.new HX0.out)
  clear h F0 F2
  go_enter Tryz.func122, Tryz.ntmps122
  go_wp2_with first
    | (go_at_call 88; refine (p_open_deep H0.out hd).mono ?_; rintro en w2 ⟨rfl, hx2, hr2⟩
       have HX2 : Hid (Ext (· = c.rb) (w.alloc (.cells #[.int .i64 0, .string ⟨#[]⟩, .int .i64 0, .slice none 0 0] 72)) w2) := hx2
       have kb : w2.heap[w.heap.size]? = some (.cells #[.int .i64 0, .string ⟨#[]⟩, .int .i64 0, .slice none 0 0] 72) := (HX2.out.block _ (block_lt (heap_alloc_new w _)) hrn).trans (heap_alloc_new w _)
       have z0 := cell_of_block kb 0
       have z1 := cell_of_block kb 1
       have z2 := cell_of_block kb 2
       have z3 := cell_of_block kb 3
       have y0 := frozen_of_block kb 0
       have y1 := frozen_of_block kb 1
       have y2 := frozen_of_block kb 2
       have y3 := frozen_of_block kb 3
       clear kb
       have HR2 := hide hr2
       clear hx2 hr2)
  refine bodyPost_ret (v := .tuple #[.agg #[.int .i64 0, .string ⟨#[]⟩, .int .i64 0, .slice none 0 0], .bool false]) (by simp [results, Tryz.results122, go_sem, z0, z1, z2, z3]) rfl ?_
  exact post_no HX0.out HX2.out HR2.out (four_ext _ _ _ _ _ _) hrb htb hsb HNV.out

set_option maxRecDepth 100000 in
set_option maxHeartbeats 400000 in
theorem p_app_name {w : World} {c : PCtx} {t u : Tk} {us : List Tk} {d pl er : Int} (h : PR w c (t :: u :: us) d pl er) (hd : d < 30) (hne : t.txt.toList ≠ []) (hk : ¬ dclErr c.N u.txt.toList = 0) :
    Calls Tryz.prog 122 #[.pointer (some ⟨c.rb, 0, none⟩)] w (PPost w c d pl er (.no (dclErr c.N u.txt.toList) u.pos)) := by
  have F0 := fld0
  have F2 := fld2
  have hrb := h.rbs
  have hrn : ¬ w.heap.size = c.rb := by omega
  have htb := h.tbs
  have hsb := h.sbs
  have HNV := hide h.nvs
  have HX0 : Hid (Ext (fun _ => False) w (w.alloc (.cells #[.int .i64 0, .string ⟨#[]⟩, .int .i64 0, .slice none 0 0] 72))) := (Ext.refl _ w).alloc _
  have H0 := hide (h.new HX0.out)
  have HNE := hide hne
  have HK := hide hk
  clear h F0 F2 hne hk
  go_enter Tryz.func122, Tryz.ntmps122
  go_wp2_with (go_at_call 88; refine (p_open_ok H0.out hd HNE.out).mono ?_; rintro en w1 ⟨rfl, hx1, hr1⟩; have HX1 := hide hx1; have HR1 := hide hr1; clear hx1 hr1)
  refine (p_declared_no HR1.out HK.out).mono ?_
  rintro en w2 ⟨rfl, hx2, hr2⟩
  have HX2 : Hid (Ext (· = c.rb) (w.alloc (.cells #[.int .i64 0, .string ⟨#[]⟩, .int .i64 0, .slice none 0 0] 72)) w2) := HX1.out.trans hx2
  have kb : w2.heap[w.heap.size]? = some (.cells #[.int .i64 0, .string ⟨#[]⟩, .int .i64 0, .slice none 0 0] 72) := (HX2.out.block _ (block_lt (heap_alloc_new w _)) hrn).trans (heap_alloc_new w _)
  have z0 := cell_of_block kb 0
  have z1 := cell_of_block kb 1
  have z2 := cell_of_block kb 2
  have z3 := cell_of_block kb 3
  have y0 := frozen_of_block kb 0
  have y1 := frozen_of_block kb 1
  have y2 := frozen_of_block kb 2
  have y3 := frozen_of_block kb 3
  clear kb
  have hsz2 : w.heap.size < w2.heap.size := by have := HX2.out.size; simp at this; omega
  have HR2 := hide hr2
  clear hx2 hr2
  go_wp2_with fail
  refine bodyPost_ret (v := .tuple #[.agg #[.int .i64 0, .string ⟨#[]⟩, .int .i64 0, .slice none 0 0], .bool false]) (by simp [results, Tryz.results122, go_sem, z0, z1, z2, z3, hsz2]) rfl ?_
  exact post_no HX0.out HX2.out HR2.out ((four_ext _ _ _ _ _ _).alloc _) hrb htb hsb HNV.out

set_option maxRecDepth 100000 in
set_option maxHeartbeats 400000 in
theorem p_app_zero {w : World} {c : PCtx} {t u : Tk} {us : List Tk} {d pl er : Int} (h : PR w c (t :: u :: us) d pl er) (hd : d < 30) (hne : t.txt.toList ≠ []) (hn : isName u.txt.toList = true) (ha : arOf c.N u.txt.toList = some 0) :
    Calls Tryz.prog 122 #[.pointer (some ⟨c.rb, 0, none⟩)] w (PPost w c d pl er (.no 4 u.pos)) := by
  have F0 := fld0
  have F2 := fld2
  have hrb := h.rbs
  have hrn : ¬ w.heap.size = c.rb := by omega
  have htb := h.tbs
  have hsb := h.sbs
  have HNV := hide h.nvs
  have HX0 : Hid (Ext (fun _ => False) w (w.alloc (.cells #[.int .i64 0, .string ⟨#[]⟩, .int .i64 0, .slice none 0 0] 72))) := (Ext.refl _ w).alloc _
  have H0 := hide (h.new HX0.out)
  have HNE := hide hne
  have HN := hide hn
  have HA := hide ha
  clear h F0 F2 hne hn ha
  go_enter Tryz.func122, Tryz.ntmps122
  go_wp2_with (go_at_call 88; refine (p_open_ok H0.out hd HNE.out).mono ?_; rintro en w1 ⟨rfl, hx1, hr1⟩; have HX1 := hide hx1; have HR1 := hide hr1; clear hx1 hr1)
  refine (p_declared_ok HR1.out HN.out HA.out).mono ?_
  rintro en w2 ⟨rfl, hx2⟩
  have hx3 : Ext (fun _ => False) w1 (w2.alloc (.cells #[.string u.txt, .int .i64 0] 155)) := hx2.alloc _
  have HX3 := hide hx3
  clear hx2 hx3
  go_wp2_with first
    | (go_at_call 60; refine (p_refuse _ (HR1.out.new HX3.out)).mono ?_; rintro en w4 ⟨rfl, hx4, hr4⟩
       have HX2 : Hid (Ext (· = c.rb) (w.alloc (.cells #[.int .i64 0, .string ⟨#[]⟩, .int .i64 0, .slice none 0 0] 72)) w4) := (HX1.out.trans (HX3.out.mono (fun _ _ f => f.elim))).trans hx4
       have kb : w4.heap[w.heap.size]? = some (.cells #[.int .i64 0, .string ⟨#[]⟩, .int .i64 0, .slice none 0 0] 72) := (HX2.out.block _ (block_lt (heap_alloc_new w _)) hrn).trans (heap_alloc_new w _)
       have z0 := cell_of_block kb 0
       have z1 := cell_of_block kb 1
       have z2 := cell_of_block kb 2
       have z3 := cell_of_block kb 3
       have y0 := frozen_of_block kb 0
       have y1 := frozen_of_block kb 1
       have y2 := frozen_of_block kb 2
       have y3 := frozen_of_block kb 3
       clear kb
       have HR2 := hide hr4
       clear hx4 hr4)
  refine bodyPost_ret (v := .tuple #[.agg #[.int .i64 0, .string ⟨#[]⟩, .int .i64 0, .slice none 0 0], .bool false]) (by simp [results, Tryz.results122, go_sem, z0, z1, z2, z3]) rfl ?_
  exact post_no HX0.out HX2.out HR2.out (four_ext _ _ _ _ _ _) hrb htb hsb HNV.out

set_option maxRecDepth 100000 in
set_option maxHeartbeats 400000 in
theorem p_app {w : World} {c : PCtx} {t u : Tk} {us : List Tk} {d pl er : Int} (n a : Nat) (h : PR w c (t :: u :: us) d pl er) (hd : d < 30) (hne : t.txt.toList ≠ []) (hn : isName u.txt.toList = true) (ha : arOf c.N u.txt.toList = some (a : Int)) (h1 : 1 ≤ a) (h3 : a ≤ 3) (hus : us.length ≤ n) (T : List Tk → Rs Nd) (hT : Fits T)
    (ih : ∀ (w : World) (ts : List Tk), ts.length ≤ n → PR w c ts (d + 1) pl er → Calls Tryz.prog 113 #[.pointer (some ⟨c.rb, 0, none⟩)] w (PPost w c (d + 1) pl er (T ts))) :
    Calls Tryz.prog 122 #[.pointer (some ⟨c.rb, 0, none⟩)] w (PPost w c d pl er (rdCloses 4 3 u.txt (rdRow (List.replicate a (rdArg T)) us))) := by
  have F0 := fld0
  have F2 := fld2
  have hrb := h.rbs
  have hrn : ¬ w.heap.size = c.rb := by omega
  have htb := h.tbs
  have hsb := h.sbs
  have HNV := hide h.nvs
  have HX0 : Hid (Ext (fun _ => False) w (w.alloc (.cells #[.int .i64 0, .string ⟨#[]⟩, .int .i64 0, .slice none 0 0] 72))) := (Ext.refl _ w).alloc _
  have H0 := hide (h.new HX0.out)
  have HNE := hide hne
  have HN := hide hn
  have HA := hide ha
  have HUNE : Hid (u.txt.toList ≠ []) := by
    have := (name_word hn).2.2
    intro e; rw [e] at this; exact absurd this (by decide)
  have HT := hide hT
  have IH := hide ih
  have hd0 := h.dlo
  have ha0 : ((a : Int) == 0) = false := by simp; omega
  clear h F0 F2 hne hn ha hT ih
  go_enter Tryz.func122, Tryz.ntmps122
  go_wp2_with (go_at_call 88; refine (p_open_ok H0.out hd HNE.out).mono ?_; rintro en w1 ⟨rfl, hx1, hr1⟩; have HX1 := hide hx1; have HR1 := hide hr1; clear hx1 hr1)
  refine (p_declared_ok HR1.out HN.out HA.out).mono ?_
  rintro en w2 ⟨rfl, hx2⟩
  have hx3 : Ext (fun _ => False) w1 (w2.alloc (.cells #[.string u.txt, .int .i64 (a : Int)] 155)) := hx2.alloc _
  have HX3 := hide hx3
  have hs1 := HX1.out.size
  have hs2 := hx2.size
  have hsz1 : w.heap.size < w1.heap.size := by simp at hs1; omega
  have hsz2 : w1.heap.size ≤ w2.heap.size := hs2
  have hrb2 : c.rb < w2.heap.size := by omega
  clear hx2 hx3 hs1 hs2
  go_wp2_with fail
  refine (p_pass (HR1.out.new HX3.out) HUNE.out).mono ?_
  rintro en w4 ⟨rfl, hx4, hr4⟩
  have kf : w4.heap[w2.heap.size]? = some (.cells #[.string u.txt, .int .i64 (a : Int)] 155) := (hx4.block _ (block_lt (heap_alloc_new w2 _)) (by show ¬ w2.heap.size = c.rb; omega)).trans (heap_alloc_new w2 _)
  have q1 := cell_of_block kf 1
  have hl4 := block_lt kf
  have hs4 := hx4.size
  have HX04 : Hid (Ext (· = c.rb) (w.alloc (.cells #[.int .i64 0, .string ⟨#[]⟩, .int .i64 0, .slice none 0 0] 72)) w4) := (HX1.out.trans (HX3.out.mono (fun _ _ f => f.elim))).trans hx4
  have HR4 := hide hr4
  have KF := hide kf
  clear hx4 hr4 kf hs4
  go_wp2_with fail
  obtain ⟨W5, hW5⟩ : ∃ W5, w4.alloc (Obj.cells #[(.func (.func 129) #[.pointer (some ⟨c.rb, 0, none⟩)] #[])] 105) = W5 := ⟨_, rfl⟩
  have hx5 : Ext (fun _ => False) w4 W5 := by rw [← hW5]; exact (Ext.refl _ w4).alloc _
  have hsz5 : W5.heap.size = w4.heap.size + 1 := by rw [← hW5]; simp
  have kv5 : W5.heap[w4.heap.size]? = some (.cells #[(.func (.func 129) #[.pointer (some ⟨c.rb, 0, none⟩)] #[])] 105) := by rw [← hW5]; exact heap_alloc_new w4 _
  rw [hW5]
  refine (p_repeat (F := (.func (.func 129) #[.pointer (some ⟨c.rb, 0, none⟩)] #[])) h1 h3 rfl (cell_of_block kv5 0) (block_lt kv5)).mono ?_
  rintro en w6 ⟨rfl, hx6, hb6⟩
  rw [hsz5] at hb6 ⊢
  have HR6 := hide ((HR4.out.new hx5).new hx6)
  have hx46 : Ext (fun _ => False) w4 w6 := hx5.trans hx6
  have HX06 : Hid (Ext (· = c.rb) (w.alloc (.cells #[.int .i64 0, .string ⟨#[]⟩, .int .i64 0, .slice none 0 0] 72)) w6) := HX04.out.trans (hx46.mono (fun _ _ f => f.elim))
  have KF6 := hide ((hx46.block _ (block_lt KF.out) (fun f => f)).trans KF.out)
  have hl6 : w2.heap.size < w6.heap.size := Nat.lt_of_lt_of_le hl4 hx46.size
  have hrow := p_row (w4.heap.size + 1) a (List.replicate a (129, rdArg T)) HR6.out (by rw [List.length_replicate]; omega) n hus (fun f hf => by rw [(List.mem_replicate.1 hf).2]; exact arg_fits HT.out)
    (block_lt hb6) (by omega)
    (fun i f hi => by
      obtain ⟨hil, hif⟩ := List.getElem?_eq_some_iff.1 hi
      simp at hif hil
      rw [cell_of_block hb6 i, ← hif]
      simp [hil])
    (fun f hf => by rw [(List.mem_replicate.1 hf).2]; exact Or.inr (Or.inr (Or.inr rfl)))
    (fun f hf W vs hvs hP => by
      rw [(List.mem_replicate.1 hf).2]
      obtain ⟨x, xs, rfl⟩ := hP.head
      exact p_argument T hP (fun W' hP' => IH.out W' (x :: xs) hvs hP'))
  rw [List.length_replicate, List.map_replicate] at hrow
  have HROW := hide hrow
  clear hx5 hsz5 kv5 hx6 hb6 hx46 hrow hW5 q1
  go_wp2_with fail
  refine HROW.out.mono ?_
  cases hrr : rdRow (List.replicate a (rdArg T)) us with
  | no e p =>
    have HRES : Hid (rdCloses 4 3 u.txt (rdRow (List.replicate a (rdArg T)) us) = .no e p) := by
      show _ = _
      rw [hrr]; rfl
    clear hrr
    rintro en w7 ⟨hx7, rfl, ts', d', hr7⟩
    have HX2 : Hid (Ext (· = c.rb) (w.alloc (.cells #[.int .i64 0, .string ⟨#[]⟩, .int .i64 0, .slice none 0 0] 72)) w7) := HX06.out.trans hx7
    have kb : w7.heap[w.heap.size]? = some (.cells #[.int .i64 0, .string ⟨#[]⟩, .int .i64 0, .slice none 0 0] 72) := (HX2.out.block _ (block_lt (heap_alloc_new w _)) hrn).trans (heap_alloc_new w _)
    have z0 := cell_of_block kb 0
    have z1 := cell_of_block kb 1
    have z2 := cell_of_block kb 2
    have z3 := cell_of_block kb 3
    have y0 := frozen_of_block kb 0
    have y1 := frozen_of_block kb 1
    have y2 := frozen_of_block kb 2
    have y3 := frozen_of_block kb 3
    clear kb
    have HR2 := hide hr7
    clear hx7 hr7
    go_wp2_with fail
    rw [HRES.out]
    refine bodyPost_ret (v := .tuple #[.agg #[.int .i64 0, .string ⟨#[]⟩, .int .i64 0, .slice none 0 0], .bool false]) (by simp [results, Tryz.results122, go_sem, z0, z1, z2, z3]) rfl ?_
    exact post_no HX0.out HX2.out HR2.out (four_ext _ _ _ _ _ _) hrb htb hsb HNV.out
  | ok ps ts' =>
    rintro en w7 ⟨hx7, sa, sn, sc, kids, rfl, hrow7, hr7⟩
    obtain ⟨v, vs, rfl⟩ := hr7.head
    have hl7 : w2.heap.size < w7.heap.size := Nat.lt_of_lt_of_le hl6 hx7.size
    have HROW7 : Hid (PRow w7 (fun k => w.heap.size < k) (.slice sa sn sc) ps kids) := hrow7.mono (fun k _ hk => by have h5 : w6.heap.size ≤ k := hk; show w.heap.size < k; omega)
    have HX07 := hide (HX06.out.trans hx7)
    have KF7 := hide ((hx7.block _ (block_lt KF6.out) (by show ¬ w2.heap.size = c.rb; omega)).trans KF6.out)
    have HR7 := hide hr7
    clear hx7 hr7 hrow7
    by_cases hq : v.txt.toList = [41]
    · have HRES : Hid (rdCloses 4 3 u.txt (rdRow (List.replicate a (rdArg T)) us) = .ok (.mk 3 u.txt 0 ps) vs) := by
        show _ = _
        rw [hrr, rdCloses, rdShut, if_pos hq]
      clear hrr
      go_wp2_with first
        | (go_at_call 91; refine (p_close_ok _ HR7.out (by omega) hq).mono ?_; rintro en w8 ⟨rfl, hx8, hr8⟩
           have HX2 : Hid (Ext (· = c.rb) (w.alloc (.cells #[.int .i64 0, .string ⟨#[]⟩, .int .i64 0, .slice none 0 0] 72)) w8) := HX07.out.trans hx8
           have kb : w8.heap[w.heap.size]? = some (.cells #[.int .i64 0, .string ⟨#[]⟩, .int .i64 0, .slice none 0 0] 72) := (HX2.out.block _ (block_lt (heap_alloc_new w _)) hrn).trans (heap_alloc_new w _)
           have z0 := cell_of_block kb 0
           have z1 := cell_of_block kb 1
           have z2 := cell_of_block kb 2
           have z3 := cell_of_block kb 3
           have y0 := frozen_of_block kb 0
           have y1 := frozen_of_block kb 1
           have y2 := frozen_of_block kb 2
           have y3 := frozen_of_block kb 3
           clear kb
           have kf8 := (hx8.block _ (block_lt KF7.out) (by show ¬ w2.heap.size = c.rb; omega)).trans KF7.out
           have q80 := cell_of_block kf8 0
           have HROW8 := hide (HROW7.out.ext hx8 (fun k _ hk e => by have h5 : w.heap.size < k := hk; have h6 : k = c.rb := e; omega))
           rw [show d + 1 - 1 = d from by omega] at hr8
           have HR2 := hide hr8
           clear hx8 hr8 kf8)
      rw [HRES.out]
      refine bodyPost_ret (v := .tuple #[.agg #[.int .i64 3, .string u.txt, .int .i64 0, .slice sa sn sc], .bool true]) (by simp [results, Tryz.results122, go_sem, z0, z1, z2, z3]) rfl ?_
      exact post_ok HX0.out HX2.out HR2.out (kids_row HROW8.out) (four_ext _ _ _ _ _ _) hrb htb hsb HNV.out
    · have HRES : Hid (rdCloses 4 3 u.txt (rdRow (List.replicate a (rdArg T)) us) = .no (clErr 4 v.txt.toList) v.pos) := by
        show _ = _
        rw [hrr, rdCloses, rdShut, if_neg hq]
        unfold clErr
        split <;> rfl
      clear hrr
      go_wp2_with first
        | (go_at_call 91; refine (p_close_no _ HR7.out hq).mono ?_; rintro en w8 ⟨rfl, hx8, hr8⟩
           have HX2 : Hid (Ext (· = c.rb) (w.alloc (.cells #[.int .i64 0, .string ⟨#[]⟩, .int .i64 0, .slice none 0 0] 72)) w8) := HX07.out.trans hx8
           have kb : w8.heap[w.heap.size]? = some (.cells #[.int .i64 0, .string ⟨#[]⟩, .int .i64 0, .slice none 0 0] 72) := (HX2.out.block _ (block_lt (heap_alloc_new w _)) hrn).trans (heap_alloc_new w _)
           have z0 := cell_of_block kb 0
           have z1 := cell_of_block kb 1
           have z2 := cell_of_block kb 2
           have z3 := cell_of_block kb 3
           have y0 := frozen_of_block kb 0
           have y1 := frozen_of_block kb 1
           have y2 := frozen_of_block kb 2
           have y3 := frozen_of_block kb 3
           clear kb
           have HR2 := hide hr8
           clear hx8 hr8)
      rw [HRES.out]
      refine bodyPost_ret (v := .tuple #[.agg #[.int .i64 0, .string ⟨#[]⟩, .int .i64 0, .slice none 0 0], .bool false]) (by simp [results, Tryz.results122, go_sem, z0, z1, z2, z3]) rfl ?_
      exact post_no HX0.out HX2.out HR2.out (four_ext _ _ _ _ _ _) hrb htb hsb HNV.out

end Go.Proofs.YtihpglkehkgioaaGreatDoor
