/- The program's reader: the parts behind a first word; The program's reader: any number of formulas behind a first word; the parts, whatever the first word asks. -/
import Derived.Test.YtihpglkehkgioaaGreatDoorOwn21
/- The program's reader: the parts behind a first word. -/
namespace Go.Proofs.YtihpglkehkgioaaGreatDoor
open Go.RowKit Ar

theorem RowPost.of_new {w W : World} {c : PCtx} {d pl er : Int} {r : Rs (List Nd)} {en : Ending} {w' : World} (hx : Ext (fun _ => False) w W) (h : RowPost W c d pl er r en w') : RowPost w c d pl er r en w' := by
  cases r with
  | no e p => exact ⟨(hx.mono (fun _ _ f => f.elim)).trans h.1, h.2⟩
  | ok ps ts' =>
    obtain ⟨h1, sa, sn, sc, kids, he, hrow, hr⟩ := h
    have := hx.size
    exact ⟨(hx.mono (fun _ _ f => f.elim)).trans h1, sa, sn, sc, kids, he, hrow.mono (fun k _ hk => Nat.le_trans this hk), hr⟩

set_option maxRecDepth 100000 in
set_option maxHeartbeats 400000 in
theorem p_parts_0 {w : World} {c : PCtx} {ts : List Tk} {d pl er : Int} (n : Nat) (F T : List Tk → Rs Nd) (h : PR w c ts d pl er) (hn : ts.length ≤ n) (hfF : Fits F) (hfT : Fits T)
    (hf : ∀ (w : World) (ts : List Tk), ts.length ≤ n → PR w c ts d pl er → Calls Tryz.prog 38 #[.pointer (some ⟨c.rb, 0, none⟩)] w (PPost w c d pl er (F ts)))
    (ht : ∀ (w : World) (ts : List Tk), ts.length ≤ n → PR w c ts d pl er → Calls Tryz.prog 113 #[.pointer (some ⟨c.rb, 0, none⟩)] w (PPost w c d pl er (T ts))) :
    Calls Tryz.prog 90 #[.pointer (some ⟨c.rb, 0, none⟩), .int .i64 0] w (RowPost w c d pl er (rdRow [F] ts)) := by
  have H := hide h
  have HF := hide hf
  have HT := hide ht
  have HFF := hide hfF
  have HTF := hide hfT
  have HN := hide hn
  have HRB := hide h.rbs
  clear h hf ht hfF hfT hn
  go_enter Tryz.func90, Tryz.ntmps90
  go_wp2_with fail
  obtain ⟨W5, hW5⟩ : ∃ W5, w.alloc (Obj.cells #[(.func (.func 38) #[.pointer (some ⟨c.rb, 0, none⟩)] #[])] 105) = W5 := ⟨_, rfl⟩
  have hx5 : Ext (fun _ => False) w W5 := by rw [← hW5]; exact (Ext.refl _ w).alloc _
  have kv5 : W5.heap[w.heap.size]? = some (.cells #[(.func (.func 38) #[.pointer (some ⟨c.rb, 0, none⟩)] #[])] 105) := by rw [← hW5]; exact heap_alloc_new w _
  rw [hW5]
  clear hW5
  have hcells : ∀ (i : Nat) (f : Nat × (List Tk → Rs Nd)), ([(38, F)] : List (Nat × (List Tk → Rs Nd)))[i]? = some f → W5.cell? ⟨w.heap.size, i, none⟩ = some (.func (.func f.1) #[.pointer (some ⟨c.rb, 0, none⟩)] #[]) := fun i f hf2 =>
    match i, f, hf2 with
      | 0, f, hf2 => by simp at hf2; subst hf2; exact cell_of_block kv5 0
      | i + 1, f, hf2 => by simp at hf2
  have HCALL := hide (p_row w.heap.size 1 [(38, F)] (H.out.new hx5) (by simp) n HN.out
    (by intro f hf2; simp at hf2; rcases hf2 with rfl <;> first | exact HFF.out | exact HTF.out | exact num_fits 5 (Or.inr rfl))
    (block_lt kv5) (by have := HRB.out; omega) hcells
    (by intro f hf2; simp at hf2; rcases hf2 with rfl <;> simp)
    (by intro f hf2; simp at hf2; rcases hf2 with rfl <;> first | exact HF.out | exact HT.out | exact fun w ts hl hP => by obtain ⟨t, us, rfl⟩ := hP.head; exact p_bound hP))
  have HX5 := hide hx5
  clear hx5 kv5 hcells
  refine HCALL.out.mono ?_
  clear HCALL
  rintro en w6 hp
  have hp6 := RowPost.of_new HX5.out hp
  clear hp
  change RowPost w c d pl er (rdRow [F] ts) en w6 at hp6
  cases hrr : rdRow [F] ts with
  | no e p =>
    rw [hrr] at hp6
    obtain ⟨hx6, rfl, hr6⟩ := hp6
    have HX6 := hide hx6
    have HR6 := hide hr6
    have HRES := hide hrr
    clear hx6 hr6 hrr
    go_wp2_with fail
    go_ret2
    rw [HRES.out]
    exact ⟨HX6.out, rfl, HR6.out⟩
  | ok ps ts' =>
    rw [hrr] at hp6
    obtain ⟨hx6, sa, sn, sc, kids, rfl, hr6⟩ := hp6
    have HX6 := hide hx6
    have HR6 := hide hr6
    have HRES := hide hrr
    clear hx6 hr6 hrr
    go_wp2_with fail
    go_ret2
    rw [HRES.out]
    exact ⟨HX6.out, sa, sn, sc, kids, rfl, HR6.out⟩

set_option maxRecDepth 100000 in
set_option maxHeartbeats 400000 in
theorem p_parts_1 {w : World} {c : PCtx} {ts : List Tk} {d pl er : Int} (n : Nat) (F T : List Tk → Rs Nd) (h : PR w c ts d pl er) (hn : ts.length ≤ n) (hfF : Fits F) (hfT : Fits T)
    (hf : ∀ (w : World) (ts : List Tk), ts.length ≤ n → PR w c ts d pl er → Calls Tryz.prog 38 #[.pointer (some ⟨c.rb, 0, none⟩)] w (PPost w c d pl er (F ts)))
    (ht : ∀ (w : World) (ts : List Tk), ts.length ≤ n → PR w c ts d pl er → Calls Tryz.prog 113 #[.pointer (some ⟨c.rb, 0, none⟩)] w (PPost w c d pl er (T ts))) :
    Calls Tryz.prog 90 #[.pointer (some ⟨c.rb, 0, none⟩), .int .i64 1] w (RowPost w c d pl er (rdRow [F, F] ts)) := by
  have H := hide h
  have HF := hide hf
  have HT := hide ht
  have HFF := hide hfF
  have HTF := hide hfT
  have HN := hide hn
  have HRB := hide h.rbs
  clear h hf ht hfF hfT hn
  go_enter Tryz.func90, Tryz.ntmps90
  go_wp2_with fail
  obtain ⟨W5, hW5⟩ : ∃ W5, w.alloc (Obj.cells #[(.func (.func 38) #[.pointer (some ⟨c.rb, 0, none⟩)] #[]), (.func (.func 38) #[.pointer (some ⟨c.rb, 0, none⟩)] #[])] 105) = W5 := ⟨_, rfl⟩
  have hx5 : Ext (fun _ => False) w W5 := by rw [← hW5]; exact (Ext.refl _ w).alloc _
  have kv5 : W5.heap[w.heap.size]? = some (.cells #[(.func (.func 38) #[.pointer (some ⟨c.rb, 0, none⟩)] #[]), (.func (.func 38) #[.pointer (some ⟨c.rb, 0, none⟩)] #[])] 105) := by rw [← hW5]; exact heap_alloc_new w _
  rw [hW5]
  clear hW5
  have hcells : ∀ (i : Nat) (f : Nat × (List Tk → Rs Nd)), ([(38, F), (38, F)] : List (Nat × (List Tk → Rs Nd)))[i]? = some f → W5.cell? ⟨w.heap.size, i, none⟩ = some (.func (.func f.1) #[.pointer (some ⟨c.rb, 0, none⟩)] #[]) := fun i f hf2 =>
    match i, f, hf2 with
      | 0, f, hf2 => by simp at hf2; subst hf2; exact cell_of_block kv5 0
      | 1, f, hf2 => by simp at hf2; subst hf2; exact cell_of_block kv5 1
      | i + 2, f, hf2 => by simp at hf2
  have HCALL := hide (p_row w.heap.size 2 [(38, F), (38, F)] (H.out.new hx5) (by simp) n HN.out
    (by intro f hf2; simp at hf2; rcases hf2 with rfl | rfl <;> first | exact HFF.out | exact HTF.out | exact num_fits 5 (Or.inr rfl))
    (block_lt kv5) (by have := HRB.out; omega) hcells
    (by intro f hf2; simp at hf2; rcases hf2 with rfl | rfl <;> simp)
    (by intro f hf2; simp at hf2; rcases hf2 with rfl | rfl <;> first | exact HF.out | exact HT.out | exact fun w ts hl hP => by obtain ⟨t, us, rfl⟩ := hP.head; exact p_bound hP))
  have HX5 := hide hx5
  clear hx5 kv5 hcells
  refine HCALL.out.mono ?_
  clear HCALL
  rintro en w6 hp
  have hp6 := RowPost.of_new HX5.out hp
  clear hp
  change RowPost w c d pl er (rdRow [F, F] ts) en w6 at hp6
  cases hrr : rdRow [F, F] ts with
  | no e p =>
    rw [hrr] at hp6
    obtain ⟨hx6, rfl, hr6⟩ := hp6
    have HX6 := hide hx6
    have HR6 := hide hr6
    have HRES := hide hrr
    clear hx6 hr6 hrr
    go_wp2_with fail
    go_ret2
    rw [HRES.out]
    exact ⟨HX6.out, rfl, HR6.out⟩
  | ok ps ts' =>
    rw [hrr] at hp6
    obtain ⟨hx6, sa, sn, sc, kids, rfl, hr6⟩ := hp6
    have HX6 := hide hx6
    have HR6 := hide hr6
    have HRES := hide hrr
    clear hx6 hr6 hrr
    go_wp2_with fail
    go_ret2
    rw [HRES.out]
    exact ⟨HX6.out, sa, sn, sc, kids, rfl, HR6.out⟩

set_option maxRecDepth 100000 in
set_option maxHeartbeats 400000 in
theorem p_parts_3 {w : World} {c : PCtx} {ts : List Tk} {d pl er : Int} (n : Nat) (F T : List Tk → Rs Nd) (h : PR w c ts d pl er) (hn : ts.length ≤ n) (hfF : Fits F) (hfT : Fits T)
    (hf : ∀ (w : World) (ts : List Tk), ts.length ≤ n → PR w c ts d pl er → Calls Tryz.prog 38 #[.pointer (some ⟨c.rb, 0, none⟩)] w (PPost w c d pl er (F ts)))
    (ht : ∀ (w : World) (ts : List Tk), ts.length ≤ n → PR w c ts d pl er → Calls Tryz.prog 113 #[.pointer (some ⟨c.rb, 0, none⟩)] w (PPost w c d pl er (T ts))) :
    Calls Tryz.prog 90 #[.pointer (some ⟨c.rb, 0, none⟩), .int .i64 3] w (RowPost w c d pl er (rdRow [T, T] ts)) := by
  have H := hide h
  have HF := hide hf
  have HT := hide ht
  have HFF := hide hfF
  have HTF := hide hfT
  have HN := hide hn
  have HRB := hide h.rbs
  clear h hf ht hfF hfT hn
  go_enter Tryz.func90, Tryz.ntmps90
  go_wp2_with fail
  obtain ⟨W5, hW5⟩ : ∃ W5, w.alloc (Obj.cells #[(.func (.func 113) #[.pointer (some ⟨c.rb, 0, none⟩)] #[]), (.func (.func 113) #[.pointer (some ⟨c.rb, 0, none⟩)] #[])] 105) = W5 := ⟨_, rfl⟩
  have hx5 : Ext (fun _ => False) w W5 := by rw [← hW5]; exact (Ext.refl _ w).alloc _
  have kv5 : W5.heap[w.heap.size]? = some (.cells #[(.func (.func 113) #[.pointer (some ⟨c.rb, 0, none⟩)] #[]), (.func (.func 113) #[.pointer (some ⟨c.rb, 0, none⟩)] #[])] 105) := by rw [← hW5]; exact heap_alloc_new w _
  rw [hW5]
  clear hW5
  have hcells : ∀ (i : Nat) (f : Nat × (List Tk → Rs Nd)), ([(113, T), (113, T)] : List (Nat × (List Tk → Rs Nd)))[i]? = some f → W5.cell? ⟨w.heap.size, i, none⟩ = some (.func (.func f.1) #[.pointer (some ⟨c.rb, 0, none⟩)] #[]) := fun i f hf2 =>
    match i, f, hf2 with
      | 0, f, hf2 => by simp at hf2; subst hf2; exact cell_of_block kv5 0
      | 1, f, hf2 => by simp at hf2; subst hf2; exact cell_of_block kv5 1
      | i + 2, f, hf2 => by simp at hf2
  have HCALL := hide (p_row w.heap.size 2 [(113, T), (113, T)] (H.out.new hx5) (by simp) n HN.out
    (by intro f hf2; simp at hf2; rcases hf2 with rfl | rfl <;> first | exact HFF.out | exact HTF.out | exact num_fits 5 (Or.inr rfl))
    (block_lt kv5) (by have := HRB.out; omega) hcells
    (by intro f hf2; simp at hf2; rcases hf2 with rfl | rfl <;> simp)
    (by intro f hf2; simp at hf2; rcases hf2 with rfl | rfl <;> first | exact HF.out | exact HT.out | exact fun w ts hl hP => by obtain ⟨t, us, rfl⟩ := hP.head; exact p_bound hP))
  have HX5 := hide hx5
  clear hx5 kv5 hcells
  refine HCALL.out.mono ?_
  clear HCALL
  rintro en w6 hp
  have hp6 := RowPost.of_new HX5.out hp
  clear hp
  change RowPost w c d pl er (rdRow [T, T] ts) en w6 at hp6
  cases hrr : rdRow [T, T] ts with
  | no e p =>
    rw [hrr] at hp6
    obtain ⟨hx6, rfl, hr6⟩ := hp6
    have HX6 := hide hx6
    have HR6 := hide hr6
    have HRES := hide hrr
    clear hx6 hr6 hrr
    go_wp2_with fail
    go_ret2
    rw [HRES.out]
    exact ⟨HX6.out, rfl, HR6.out⟩
  | ok ps ts' =>
    rw [hrr] at hp6
    obtain ⟨hx6, sa, sn, sc, kids, rfl, hr6⟩ := hp6
    have HX6 := hide hx6
    have HR6 := hide hr6
    have HRES := hide hrr
    clear hx6 hr6 hrr
    go_wp2_with fail
    go_ret2
    rw [HRES.out]
    exact ⟨HX6.out, sa, sn, sc, kids, rfl, HR6.out⟩

set_option maxRecDepth 100000 in
set_option maxHeartbeats 400000 in
theorem p_parts_4 {w : World} {c : PCtx} {ts : List Tk} {d pl er : Int} (n : Nat) (F T : List Tk → Rs Nd) (h : PR w c ts d pl er) (hn : ts.length ≤ n) (hfF : Fits F) (hfT : Fits T)
    (hf : ∀ (w : World) (ts : List Tk), ts.length ≤ n → PR w c ts d pl er → Calls Tryz.prog 38 #[.pointer (some ⟨c.rb, 0, none⟩)] w (PPost w c d pl er (F ts)))
    (ht : ∀ (w : World) (ts : List Tk), ts.length ≤ n → PR w c ts d pl er → Calls Tryz.prog 113 #[.pointer (some ⟨c.rb, 0, none⟩)] w (PPost w c d pl er (T ts))) :
    Calls Tryz.prog 90 #[.pointer (some ⟨c.rb, 0, none⟩), .int .i64 4] w (RowPost w c d pl er (rdRow [T, T, (rdNum 5)] ts)) := by
  have H := hide h
  have HF := hide hf
  have HT := hide ht
  have HFF := hide hfF
  have HTF := hide hfT
  have HN := hide hn
  have HRB := hide h.rbs
  clear h hf ht hfF hfT hn
  go_enter Tryz.func90, Tryz.ntmps90
  go_wp2_with fail
  obtain ⟨W5, hW5⟩ : ∃ W5, w.alloc (Obj.cells #[(.func (.func 113) #[.pointer (some ⟨c.rb, 0, none⟩)] #[]), (.func (.func 113) #[.pointer (some ⟨c.rb, 0, none⟩)] #[]), (.func (.func 114) #[.pointer (some ⟨c.rb, 0, none⟩)] #[])] 105) = W5 := ⟨_, rfl⟩
  have hx5 : Ext (fun _ => False) w W5 := by rw [← hW5]; exact (Ext.refl _ w).alloc _
  have kv5 : W5.heap[w.heap.size]? = some (.cells #[(.func (.func 113) #[.pointer (some ⟨c.rb, 0, none⟩)] #[]), (.func (.func 113) #[.pointer (some ⟨c.rb, 0, none⟩)] #[]), (.func (.func 114) #[.pointer (some ⟨c.rb, 0, none⟩)] #[])] 105) := by rw [← hW5]; exact heap_alloc_new w _
  rw [hW5]
  clear hW5
  have hcells : ∀ (i : Nat) (f : Nat × (List Tk → Rs Nd)), ([(113, T), (113, T), (114, (rdNum 5))] : List (Nat × (List Tk → Rs Nd)))[i]? = some f → W5.cell? ⟨w.heap.size, i, none⟩ = some (.func (.func f.1) #[.pointer (some ⟨c.rb, 0, none⟩)] #[]) := fun i f hf2 =>
    match i, f, hf2 with
      | 0, f, hf2 => by simp at hf2; subst hf2; exact cell_of_block kv5 0
      | 1, f, hf2 => by simp at hf2; subst hf2; exact cell_of_block kv5 1
      | 2, f, hf2 => by simp at hf2; subst hf2; exact cell_of_block kv5 2
      | i + 3, f, hf2 => by simp at hf2
  have HCALL := hide (p_row w.heap.size 3 [(113, T), (113, T), (114, (rdNum 5))] (H.out.new hx5) (by simp) n HN.out
    (by intro f hf2; simp at hf2; rcases hf2 with rfl | rfl | rfl <;> first | exact HFF.out | exact HTF.out | exact num_fits 5 (Or.inr rfl))
    (block_lt kv5) (by have := HRB.out; omega) hcells
    (by intro f hf2; simp at hf2; rcases hf2 with rfl | rfl | rfl <;> simp)
    (by intro f hf2; simp at hf2; rcases hf2 with rfl | rfl | rfl <;> first | exact HF.out | exact HT.out | exact fun w ts hl hP => by obtain ⟨t, us, rfl⟩ := hP.head; exact p_bound hP))
  have HX5 := hide hx5
  clear hx5 kv5 hcells
  refine HCALL.out.mono ?_
  clear HCALL
  rintro en w6 hp
  have hp6 := RowPost.of_new HX5.out hp
  clear hp
  change RowPost w c d pl er (rdRow [T, T, (rdNum 5)] ts) en w6 at hp6
  cases hrr : rdRow [T, T, (rdNum 5)] ts with
  | no e p =>
    rw [hrr] at hp6
    obtain ⟨hx6, rfl, hr6⟩ := hp6
    have HX6 := hide hx6
    have HR6 := hide hr6
    have HRES := hide hrr
    clear hx6 hr6 hrr
    go_wp2_with fail
    go_ret2
    rw [HRES.out]
    exact ⟨HX6.out, rfl, HR6.out⟩
  | ok ps ts' =>
    rw [hrr] at hp6
    obtain ⟨hx6, sa, sn, sc, kids, rfl, hr6⟩ := hp6
    have HX6 := hide hx6
    have HR6 := hide hr6
    have HRES := hide hrr
    clear hx6 hr6 hrr
    go_wp2_with fail
    go_ret2
    rw [HRES.out]
    exact ⟨HX6.out, sa, sn, sc, kids, rfl, HR6.out⟩

end Go.Proofs.YtihpglkehkgioaaGreatDoor

/- The program's reader: any number of formulas behind a first word; the parts, whatever the first word asks. -/
namespace Go.Proofs.YtihpglkehkgioaaGreatDoor
open Go.RowKit Ar

set_option maxRecDepth 100000 in
set_option maxHeartbeats 400000 in
theorem p_parts_2 {w : World} {c : PCtx} {ts : List Tk} {d pl er : Int} (n : Nat) (F : List Tk → Rs Nd) (h : PR w c ts d pl er) (hn : ts.length ≤ n) (hfF : Fits F)
    (hf : ∀ (w : World) (ts : List Tk), ts.length ≤ n → PR w c ts d pl er → Calls Tryz.prog 38 #[.pointer (some ⟨c.rb, 0, none⟩)] w (PPost w c d pl er (F ts))) :
    Calls Tryz.prog 90 #[.pointer (some ⟨c.rb, 0, none⟩), .int .i64 2] w (RowPost w c d pl er (rdUpTo n F ts)) := by
  have HCALL := hide (p_upto n F h hn hfF hf)
  clear h hf hfF hn
  go_enter Tryz.func90, Tryz.ntmps90
  go_wp2_with fail
  refine HCALL.out.mono ?_
  clear HCALL
  rintro en w6 hp6
  cases hrr : rdUpTo n F ts with
  | no e p =>
    rw [hrr] at hp6
    obtain ⟨hx6, rfl, hr6⟩ := hp6
    have HX6 := hide hx6
    have HR6 := hide hr6
    have HRES := hide hrr
    clear hx6 hr6 hrr
    go_wp2_with fail
    go_ret2
    rw [HRES.out]
    exact ⟨HX6.out, rfl, HR6.out⟩
  | ok ps ts' =>
    rw [hrr] at hp6
    obtain ⟨hx6, sa, sn, sc, kids, rfl, hr6⟩ := hp6
    have HX6 := hide hx6
    have HR6 := hide hr6
    have HRES := hide hrr
    clear hx6 hr6 hrr
    go_wp2_with fail
    go_ret2
    rw [HRES.out]
    exact ⟨HX6.out, sa, sn, sc, kids, rfl, HR6.out⟩

theorem p_parts {w : World} {c : PCtx} {ts : List Tk} {d pl er : Int} (s : Int) (hs : s = 0 ∨ s = 1 ∨ s = 2 ∨ s = 3 ∨ s = 4) (n : Nat) (F T : List Tk → Rs Nd) (h : PR w c ts d pl er) (hn : ts.length ≤ n) (hfF : Fits F) (hfT : Fits T)
    (hf : ∀ (w : World) (ts : List Tk), ts.length ≤ n → PR w c ts d pl er → Calls Tryz.prog 38 #[.pointer (some ⟨c.rb, 0, none⟩)] w (PPost w c d pl er (F ts)))
    (ht : ∀ (w : World) (ts : List Tk), ts.length ≤ n → PR w c ts d pl er → Calls Tryz.prog 113 #[.pointer (some ⟨c.rb, 0, none⟩)] w (PPost w c d pl er (T ts))) :
    Calls Tryz.prog 90 #[.pointer (some ⟨c.rb, 0, none⟩), .int .i64 s] w (RowPost w c d pl er (rdParts s n F T (rdNum 5) ts)) := by
  rcases hs with rfl | rfl | rfl | rfl | rfl
  · exact p_parts_0 n F T h hn hfF hfT hf ht
  · exact p_parts_1 n F T h hn hfF hfT hf ht
  · exact p_parts_2 n F h hn hfF hf
  · exact p_parts_3 n F T h hn hfF hfT hf ht
  · exact p_parts_4 n F T h hn hfF hfT hf ht

theorem hd_shape {l : List UInt8} {x : ByteArray × Int × Int} (h : hdFind l = some x) : x.1.toList = l ∧ (x.2.2 = 0 ∨ x.2.2 = 1 ∨ x.2.2 = 2 ∨ x.2.2 = 3 ∨ x.2.2 = 4) := by
  have h1 := List.find?_some h
  have h2 := List.mem_of_find?_eq_some h
  refine ⟨by simpa using h1, ?_⟩
  simp [hdRows] at h2
  rcases h2 with rfl | rfl | rfl | rfl | rfl | rfl | rfl | rfl | rfl <;> simp

theorem p_head_none {w : World} {s : ByteArray} (hg : HdLaid w) (h : hdFind s.toList = none) :
    Calls Tryz.prog 89 #[.string s] w fun e w' => e = .returned (.tuple #[.agg #[.string ⟨#[]⟩, .int .i64 0, .int .i64 0], .bool false]) ∧ Ext (fun _ => False) w w' := by
  have := p_head s hg
  rw [h] at this
  exact this

theorem p_head_some {w : World} {s : ByteArray} {x : ByteArray × Int × Int} (hg : HdLaid w) (h : hdFind s.toList = some x) :
    Calls Tryz.prog 89 #[.string s] w fun e w' => e = .returned (.tuple #[.agg #[.string s, .int .i64 x.2.1, .int .i64 x.2.2], .bool true]) ∧ Ext (fun _ => False) w w' := by
  have h1 := p_head s hg
  rw [h] at h1
  rw [← bytes_ext (hd_shape h).1]
  rw [← bytes_ext (hd_shape h).1] at h1
  exact h1

end Go.Proofs.YtihpglkehkgioaaGreatDoor
