/- The program's reader: a name by itself; Reading any number of parts: plain lemmas. -/
import Derived.Test.YtihpglkehkgioaaGreatDoorOwn14
import Derived.Test.YtihpglkehkgioaaGreatDoorOwn07
/- The program's reader: a name by itself. -/
namespace Go.Proofs.YtihpglkehkgioaaGreatDoor
open Go.RowKit Ar

def zf : Obj := .cells #[.string ⟨#[]⟩, .int .i64 0] 155

set_option maxRecDepth 100000 in
set_option maxHeartbeats 400000 in
theorem p_constant {w : World} {c : PCtx} {t : Tk} {ts : List Tk} {d pl er : Int} (h : PR w c (t :: ts) d pl er) :
    Calls Tryz.prog 123 #[.pointer (some ⟨c.rb, 0, none⟩)] w (PPost w c d pl er (nameRes c.N t ts)) := by
  have F0 := fld0
  have F2 := fld2
  have hrb := h.rbs
  have hrn : ¬ w.heap.size = c.rb := by omega
  have htb := h.tbs
  have hsb := h.sbs
  have HNV := hide h.nvs
  have HX0 : Hid (Ext (fun _ => False) w (w.alloc (.cells #[.int .i64 0, .string ⟨#[]⟩, .int .i64 0, .slice none 0 0] 72))) := (Ext.refl _ w).alloc _
  have H0 := hide (h.new HX0.out)
  have HOK := hide h.ok
  clear F0 F2
  by_cases hk : dclErr c.N t.txt.toList = 0
  · have hn : isName t.txt.toList = true := by
      cases hq : isName t.txt.toList with
      | true => rfl
      | false => rw [dclErr, if_pos hq] at hk; exact absurd hk (by decide)
    obtain ⟨a, ha⟩ : ∃ a, arOf c.N t.txt.toList = some a := by
      cases hq : arOf c.N t.txt.toList with
      | some a => exact ⟨a, rfl⟩
      | none => rw [dclErr, if_neg (by rw [hn]; decide), hq, if_pos (by rfl)] at hk; exact absurd hk (by decide)
    have hb : 0 ≤ a ∧ a ≤ 3 := by
      unfold arOf at ha
      cases hf : c.N.find? (fun x => x.name.toList == t.txt.toList) with
      | none => rw [hf] at ha; exact absurd ha (by simp)
      | some x =>
        rw [hf] at ha
        simp at ha
        rw [← ha]
        exact HOK.out x (List.mem_of_find?_eq_some hf)
    have HNE : Hid (t.txt.toList ≠ []) := by
      have := (name_word hn).2.2
      intro e; rw [e] at this; exact absurd this (by decide)
    have HD := hide (p_declared_ok H0.out hn ha)
    have hres : nameRes c.N t ts = if 0 < a then .no 4 t.pos else .ok (.mk 3 t.txt 0 []) ts := by
      unfold nameRes nameErr
      rw [hn, ha]
      by_cases h0 : 0 < a
      · have h1 : ¬ a < 0 := by omega
        simp [h0, h1]
      · have h1 : a = 0 := by omega
        subst h1
        simp
    have HRES := hide hres
    clear h hk hn ha hres
    by_cases h0 : 0 < a
    · rw [HRES.out, if_pos h0]
      go_enter Tryz.func123, Tryz.ntmps123
      go_wp2_with fail
      refine HD.out.mono ?_
      rintro en w1 ⟨rfl, hx1⟩
      have hx2 : Ext (fun _ => False) (w.alloc (.cells #[.int .i64 0, .string ⟨#[]⟩, .int .i64 0, .slice none 0 0] 72)) (w1.alloc (.cells #[.string t.txt, .int .i64 a] 155)) := hx1.alloc _
      have H2 := hide (H0.out.new hx2)
      have HXa := hide hx2
      clear hx1 hx2
      go_wp2_with first
        | (go_at_call 60; refine (p_refuse _ H2.out).mono ?_; rintro en w2 ⟨rfl, hx2, hr2⟩
           have HX2 : Hid (Ext (· = c.rb) (w.alloc (.cells #[.int .i64 0, .string ⟨#[]⟩, .int .i64 0, .slice none 0 0] 72)) w2) := (HXa.out.mono (fun _ _ f => f.elim)).trans hx2
           have kb : w2.heap[w.heap.size]? = some (.cells #[.int .i64 0, .string ⟨#[]⟩, .int .i64 0, .slice none 0 0] 72) := (HX2.out.block _ (block_lt (heap_alloc_new w _)) hrn).trans (heap_alloc_new w _)
           have z0 := cell_of_block kb 0
           have z1 := cell_of_block kb 1
           have z2 := cell_of_block kb 2
           have z3 := cell_of_block kb 3
           have y0 := frozen_of_block kb 0
           have y1 := frozen_of_block kb 1
           have y2 := frozen_of_block kb 2
           have y3 := frozen_of_block kb 3
           clear kb
           have HR2 := hide hr2
           clear hx2 hr2)
      refine bodyPost_ret (v := .tuple #[.agg #[.int .i64 0, .string ⟨#[]⟩, .int .i64 0, .slice none 0 0], .bool false]) (by simp [results, Tryz.results123, go_sem, z0, z1, z2, z3]) rfl ?_
      exact post_no HX0.out HX2.out HR2.out (four_ext _ _ _ _ _ _) hrb htb hsb HNV.out
    · rw [HRES.out, if_neg h0]
      go_enter Tryz.func123, Tryz.ntmps123
      go_wp2_with fail
      refine HD.out.mono ?_
      rintro en w1 ⟨rfl, hx1⟩
      have hx2 : Ext (fun _ => False) (w.alloc (.cells #[.int .i64 0, .string ⟨#[]⟩, .int .i64 0, .slice none 0 0] 72)) (w1.alloc (.cells #[.string t.txt, .int .i64 a] 155)) := hx1.alloc _
      have H2 := hide (H0.out.new hx2)
      have HXa := hide hx2
      have hsz1 := hx1.size
      have hsz2 : w.heap.size < w1.heap.size := by simp at hsz1; omega
      have hrb1 : c.rb < w1.heap.size := by omega
      clear hx1 hx2 hsz1
      go_wp2_with first
        | (go_at_call 59; refine (p_pass H2.out HNE.out).mono ?_; rintro en w2 ⟨rfl, hx2, hr2⟩
           have HX2 : Hid (Ext (· = c.rb) (w.alloc (.cells #[.int .i64 0, .string ⟨#[]⟩, .int .i64 0, .slice none 0 0] 72)) w2) := (HXa.out.mono (fun _ _ f => f.elim)).trans hx2
           have kb : w2.heap[w.heap.size]? = some (.cells #[.int .i64 0, .string ⟨#[]⟩, .int .i64 0, .slice none 0 0] 72) := (HX2.out.block _ (block_lt (heap_alloc_new w _)) hrn).trans (heap_alloc_new w _)
           have z0 := cell_of_block kb 0
           have z1 := cell_of_block kb 1
           have z2 := cell_of_block kb 2
           have z3 := cell_of_block kb 3
           have y0 := frozen_of_block kb 0
           have y1 := frozen_of_block kb 1
           have y2 := frozen_of_block kb 2
           have y3 := frozen_of_block kb 3
           clear kb
           have kf : w2.heap[w1.heap.size]? = some (.cells #[.string t.txt, .int .i64 a] 155) := (hx2.block _ (block_lt (heap_alloc_new w1 _)) (by show ¬ w1.heap.size = c.rb; omega)).trans (heap_alloc_new w1 _)
           have q0 := cell_of_block kf 0
           have HR2 := hide hr2
           clear hx2 hr2 kf)
      refine bodyPost_ret (v := .tuple #[.agg #[.int .i64 3, .string t.txt, .int .i64 0, .slice none 0 0], .bool true]) (by simp [results, Tryz.results123, go_sem, z0, z1, z2, z3]) rfl ?_
      exact post_ok HX0.out HX2.out HR2.out (PN.leaf 3 0 t.txt) (four_ext _ _ _ _ _ _) hrb htb hsb HNV.out
  · have hres : nameRes c.N t ts = .no (dclErr c.N t.txt.toList) t.pos := by
      unfold nameRes nameErr dclErr at *
      cases hn : isName t.txt.toList with
      | false => rw [if_pos rfl, if_neg (by decide), if_pos rfl]
      | true =>
        rw [hn] at hk
        cases ha : arOf c.N t.txt.toList with
        | none => simp
        | some a => exfalso; apply hk; rw [ha]; simp
    rw [hres]
    have HD := hide (p_declared_no H0.out hk)
    clear h hk hres
    go_enter Tryz.func123, Tryz.ntmps123
    go_wp2_with fail
    refine HD.out.mono ?_
    rintro en w1 ⟨rfl, hx1, hr1⟩
    have hsz := hx1.size
    have hsz1 : w.heap.size < w1.heap.size := by simp at hsz; omega
    have HX2 : Hid (Ext (· = c.rb) (w.alloc (.cells #[.int .i64 0, .string ⟨#[]⟩, .int .i64 0, .slice none 0 0] 72)) w1) := hx1
    have kb : w1.heap[w.heap.size]? = some (.cells #[.int .i64 0, .string ⟨#[]⟩, .int .i64 0, .slice none 0 0] 72) := (HX2.out.block _ (block_lt (heap_alloc_new w _)) hrn).trans (heap_alloc_new w _)
    have z0 := cell_of_block kb 0
    have z1 := cell_of_block kb 1
    have z2 := cell_of_block kb 2
    have z3 := cell_of_block kb 3
    have y0 := frozen_of_block kb 0
    have y1 := frozen_of_block kb 1
    have y2 := frozen_of_block kb 2
    have y3 := frozen_of_block kb 3
    clear kb
    have HR2 := hide hr1
    clear hx1 hr1 hsz
    go_wp2_with fail
    refine bodyPost_ret (v := .tuple #[.agg #[.int .i64 0, .string ⟨#[]⟩, .int .i64 0, .slice none 0 0], .bool false]) (by simp [results, Tryz.results123, go_sem, z0, z1, z2, z3, hsz1]) rfl ?_
    exact post_no HX0.out HX2.out HR2.out ((four_ext _ _ _ _ _ _).alloc _) hrb htb hsb HNV.out

end Go.Proofs.YtihpglkehkgioaaGreatDoor

/- Reading any number of parts: plain lemmas. -/
namespace Go.Proofs.YtihpglkehkgioaaGreatDoor
namespace Ar

/-- Parts that were read ahead of others. -/
def rdPre (ps : List Nd) : Rs (List Nd) → Rs (List Nd)
  | .no e p => .no e p
  | .ok qs ts => .ok (ps ++ qs) ts

theorem pre_nil (r : Rs (List Nd)) : rdPre [] r = r := by cases r <;> simp [rdPre]

/-- A part more. -/
theorem upTo_step {F : List Tk → Rs Nd} {m : Nat} {ps : List Nd} {v : Tk} {vs us' : List Tk} {nd : Nd} (hv : ¬ v.txt.toList = [41]) (hf : F (v :: vs) = .ok nd us') : rdPre ps (rdUpTo (m + 1) F (v :: vs)) = rdPre (ps ++ [nd]) (rdUpTo m F us') := by
  simp only [rdUpTo, if_neg hv, hf]
  cases rdUpTo m F us' <;> simp [rdPre]

theorem upTo_no {F : List Tk → Rs Nd} {m : Nat} {ps : List Nd} {v : Tk} {vs : List Tk} {e : Int} {p : Nat} (hv : ¬ v.txt.toList = [41]) (hf : F (v :: vs) = .no e p) : rdPre ps (rdUpTo (m + 1) F (v :: vs)) = .no e p := by
  rw [rdUpTo, if_neg hv, hf]; rfl

theorem upTo_end {F : List Tk → Rs Nd} {m : Nat} {ps : List Nd} {v : Tk} {vs : List Tk} (hv : v.txt.toList = [41]) : rdPre ps (rdUpTo (m + 1) F (v :: vs)) = .ok ps (v :: vs) := by
  rw [rdUpTo, if_pos hv]; simp [rdPre]

theorem fits_short {f : List Tk → Rs Nd} (h : Fits f) {ts ts' : List Tk} {nd : Nd} (hs : TS ts) (e : f ts = .ok nd ts') : ts'.length + 1 ≤ ts.length := by
  have := (h ts nd ts' hs e).1
  omega

theorem row_short (fs : List (List Tk → Rs Nd)) (h : ∀ f ∈ fs, Fits f) : ∀ ts ps ts', TS ts → rdRow fs ts = .ok ps ts' → fs.length + ts'.length ≤ ts.length := by
  induction fs with
  | nil =>
    intro ts ps ts' hs e
    simp only [rdRow, Rs.ok.injEq] at e
    obtain ⟨rfl, rfl⟩ := e
    simp
  | cons f fs ih =>
    intro ts ps ts' hs e
    unfold rdRow at e
    split at e
    · exact absurd e (by simp)
    · rename_i a us hf
      split at e
      · exact absurd e (by simp)
      · rename_i as vs hr
        simp only [Rs.ok.injEq] at e
        obtain ⟨rfl, rfl⟩ := e
        have h1 := fits_short (h f (List.mem_cons_self ..)) hs hf
        have h2 := ih (fun g hg => h g (List.mem_cons_of_mem _ hg)) us as vs (h f (List.mem_cons_self ..) ts a us hs hf).2 hr
        simp; omega

end Ar
end Go.Proofs.YtihpglkehkgioaaGreatDoor
