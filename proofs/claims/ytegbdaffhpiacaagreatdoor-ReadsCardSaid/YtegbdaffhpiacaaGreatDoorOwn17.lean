/- The document's own answer: a text is read as a formula. -/
import Derived.Test.YtegbdaffhpiacaaGreatDoorOwn16
import Derived.Test.YtegbdaffhpiacaaGreatDoorOwn07
import Derived.OwnWalk
namespace Go.Proofs.YtegbdaffhpiacaaGreatDoor
open Go.RowKit Ar

/-- A whole text as a formula. -/
def rdWhole (N : List Nm) (l : List UInt8) : Rs Nd :=
  match rdForm N (toks l).length 0 (toks l) with
  | .no e p => .no e p
  | .ok _ [] => .no 0 0
  | .ok nd (t :: ts) => if t.txt.toList = [] then .ok nd (t :: ts) else .no 2 t.pos

theorem tkCells_get (pre ts : List Tk) (t : Tk) : (tkCells (pre ++ t :: ts))[pre.length * 2]? = some (.int .i64 t.pos) ∧ (tkCells (pre ++ t :: ts))[pre.length * 2 + 1]? = some (.string t.txt) := by
  have hl : ∀ l : List Tk, (tkCells l).length = l.length * 2 := by
    intro l
    induction l with
    | nil => rfl
    | cons a b ih => simp only [tkCells, List.flatMap_cons, List.length_append] at ih ⊢; simp at ih ⊢; omega
  have e : tkCells (pre ++ t :: ts) = tkCells pre ++ ([.int .i64 t.pos, .string t.txt] ++ tkCells ts) := by
    simp [tkCells]
  rw [e]
  constructor
  · rw [List.getElem?_append_right (by rw [hl]; omega), hl]
    have : pre.length * 2 - pre.length * 2 = 0 := by omega
    rw [this]; rfl
  · rw [List.getElem?_append_right (by rw [hl]; omega), hl]
    have : pre.length * 2 + 1 - pre.length * 2 = 1 := by omega
    rw [this]; rfl

theorem toks_of_cells {w : World} {tb : Nat} {all : List Tk} (hc : ∀ j u, (tkCells all)[j]? = some u → w.cell? ⟨tb, j, none⟩ = some u) (hs : TS all) : ∀ (ts pre : List Tk), all = pre ++ ts → Toks w tb pre.length ts := by
  intro ts
  induction ts with
  | nil => intro pre _; trivial
  | cons t ts ih =>
    intro pre e
    have h := tkCells_get pre ts t
    rw [← e] at h
    refine ⟨hc _ _ h.1, hc _ _ h.2, hs t (by rw [e]; simp), ?_⟩
    have := ih (pre ++ [t]) (by rw [e]; simp)
    simpa using this

def ReadPost (w : World) (N : List Nm) (l : List UInt8) (en : Ending) (w' : World) : Prop :=
  Ext (fun _ => False) w w' ∧ (match rdWhole N l with
    | .ok nd _ => ∃ b, en = .returned (.tuple #[.pointer (some ⟨b, 0, none⟩), .int .i64 0, .int .i64 0]) ∧ RN w' (w.heap.size ≤ ·) b nd
    | .no e p => en = .returned (.tuple #[.pointer none, .int .i64 p, .int .i64 e]) ∧ ¬ e = 0)

set_option maxHeartbeats 400000 in
theorem read_long (nv : Value) (s : ByteArray) (b : Bool) (w : World) (hs : 600 < s.size) (hm : s.size ≤ maxLen) :
    Calls Tryz.prog 119 #[nv, .string s, .bool b] w fun e w' => e = .returned (.tuple #[.pointer none, .int .i64 0, .int .i64 1]) ∧ w' = w := by
  unfold maxLen at hm
  go_enter Tryz.func119, Tryz.ntmps119
  go_wp2_with fail
  go_ret3
  exact ⟨rfl, rfl⟩

set_option maxHeartbeats 400000 in
theorem read_any (N : List Nm) (nb nc : Nat) (s : ByteArray) (w : World) (hs : s.size ≤ 600) (hN : Names w nb N) (hnb : nb < w.heap.size) (hfew : N.length ≤ 20) :
    Calls Tryz.prog 119 #[.slice (some ⟨nb, 0, none⟩) N.length nc, .string s, .bool false] w (ReadPost w N s.toList) := by
  have HN := hide hN
  clear hN
  go_enter Tryz.func119, Tryz.ntmps119
  go_wp2_with fail
  refine (tokens_any s w hs).mono ?_
  rintro e w1 ⟨v, rfl, hx1, hown⟩
  have hpos : 1 ≤ (toks s.toList).length := by
    have := (go_wf s.toList 0 []).ne
    cases h : toks s.toList with
    | nil => exact absurd h this
    | cons a b => simp
  have hlen := toks_len s.toList
  rw [len_toList] at hlen
  obtain ⟨tb, tc, hv, htb⟩ : ∃ tb tc, v = .slice (some ⟨tb, 0, none⟩) (toks s.toList).length tc ∧ w.heap.size ≤ tb := by
    rcases hown.2 with ⟨_, e⟩ | ⟨g, cap, cur, hv, hg, _⟩
    · omega
    · exact ⟨g, cap, hv, hg⟩
  subst hv
  have htl := (hown.lt tb rfl).2
  have hcell : ∀ j u, (tkCells (toks s.toList))[j]? = some u → w1.cell? ⟨tb, j, none⟩ = some u := by
    intro j u hj
    have h2 : j < (toks s.toList).length * 2 := by
      have h3 := (List.getElem?_eq_some_iff.1 hj).1
      rw [hown.1] at h3; exact h3
    rw [hown.cellAt j h2]; exact hj
  have HT : Hid (Toks w1 tb 0 (toks s.toList)) := toks_of_cells hcell (go_short s.toList 600 0 [] (by rw [len_toList]; simp; omega) (by omega)) (toks s.toList) [] rfl
  have HX1 := hide hx1
  have hsz := hx1.size
  clear hown hcell hx1
  go_wp2_with fail
  obtain ⟨W, hW⟩ : ∃ W, w1.alloc (Obj.cells #[.slice (some ⟨tb, 0, none⟩) (toks s.toList).length tc, .int .i64 0, .int .i64 0, .slice (some ⟨nb, 0, none⟩) N.length nc, .int .i64 0, .int .i64 0] 288) = W := ⟨_, rfl⟩
  have hxW : Ext (fun _ => False) w1 W := by rw [← hW]; exact (Ext.refl _ w1).alloc _
  have hRd : Rd W ⟨w1.heap.size, tb, (toks s.toList).length, tc, nb, nc, N⟩ (toks s.toList) 0 0 0 := by
    refine ⟨go_wf _ _ _, by omega, by omega, by show ¬ tb = w1.heap.size; omega, by show ¬ nb = w1.heap.size; omega, ?_, ?_, hfew, ?_, 0, by simp, by show (toks s.toList).length ≤ 601; omega, ?_, ?_⟩
    · have := hxW.size; show tb < W.heap.size; omega
    · have := hxW.size; show nb < W.heap.size; omega
    · exact (HN.out.ext HX1.out hnb (fun f => f)).ext hxW (by show nb < w1.heap.size; omega) (fun f => f)
    · exact HT.out.ext hxW htl (fun f => f)
    · rw [← hW]; exact heap_alloc_new w1 _
  rw [hW]
  have HXW := hide hxW
  have HRD := hide hRd
  clear hW hxW hRd
  refine (form_any ⟨w1.heap.size, tb, (toks s.toList).length, tc, nb, nc, N⟩ (toks s.toList).length W (toks s.toList) 0 0 (Nat.le_refl _) HRD.out).mono ?_
  rintro e w2 ⟨b, x0, x1, x2, x3, f, rfl, hb, hx2, bb, hfs, hsd, hrn⟩
  have HX2 : Hid (Ext (fun _ => False) w w2) := by
    show Ext _ _ _
    exact (HX1.out.trans HXW.out).trans' hx2 (fun i hi e => by have h1 : i = w1.heap.size := e; omega)
  have hWs := HXW.out.size
  have hxs2 := hx2.size
  have HRN := hide hrn
  have HSD := hide hsd
  have HX2' := hide hx2
  clear hx2 bb hfs hrn hsd
  cases hrf : rdForm N (toks s.toList).length 0 (toks s.toList) with
  | no e p =>
    have hsd := HSD.out
    have hrf' : rdForm (Ctx.N ⟨w1.heap.size, tb, (toks s.toList).length, tc, nb, nc, N⟩) (toks s.toList).length 0 (toks s.toList) = .no e p := hrf
    rw [hrf'] at hsd
    obtain ⟨he0, ts', d', hr⟩ := hsd
    have he0' : (e == 0) = false := by simpa using he0
    obtain ⟨t, us, rfl⟩ := hr.head
    have hres : rdWhole N s.toList = .no e p := by simp only [rdWhole, hrf]
    have HRES := hide hres
    have c4 : w2.cell? ⟨w1.heap.size, 4, none⟩ = some (.int .i64 e) := hr.c4
    have c5 : w2.cell? ⟨w1.heap.size, 5, none⟩ = some (.int .i64 p) := hr.c5
    have HR := hide hr
    clear hrf hrf' hr hres
    cases hem : t.txt.toList.isEmpty with
    | true =>
      go_wp2_with (go_at_call 161; refine (rd_next HR.out).mono ?_; rintro e w' ⟨rfl, m, rfl⟩)
      go_quiet (fail)
      go_wp2_with fail
      go_ret3
      refine ⟨?_, ?_⟩
      · exact (HX2.out.drewN _).drewN _
      · rw [HRES.out]; exact ⟨rfl, he0⟩
    | false =>
      go_wp2_with first
        | (go_at_call 161; refine (rd_next HR.out).mono ?_; rintro e w' ⟨rfl, m, rfl⟩)
        | (go_at_call 162; refine (rd_fail_dead _ (HR.out.drewN _) he0).mono ?_; rintro e w' ⟨rfl, rfl⟩)
      go_quiet (fail)
      go_wp2_with fail
      go_ret3
      refine ⟨?_, ?_⟩
      · exact (HX2.out.drewN _).drewN _
      · rw [HRES.out]; exact ⟨rfl, he0⟩
  | ok nd ts' =>
    have hsd := HSD.out
    have hrf' : rdForm (Ctx.N ⟨w1.heap.size, tb, (toks s.toList).length, tc, nb, nc, N⟩) (toks s.toList).length 0 (toks s.toList) = .ok nd ts' := hrf
    rw [hrf'] at hsd
    have hr : Rd w2 ⟨w1.heap.size, tb, (toks s.toList).length, tc, nb, nc, N⟩ ts' 0 0 0 := hsd
    have hrn := HRN.out nd ts' hrf'
    have HRN2 := hide hrn
    obtain ⟨t, us, rfl⟩ := hr.head
    have HR := hide hr
    cases hem : t.txt.toList.isEmpty with
    | true =>
      have hres : rdWhole N s.toList = .ok nd (t :: us) := by
        simp only [rdWhole, hrf]; rw [if_pos (by simpa using hem)]
      have HRES := hide hres
      have c4 : w2.cell? ⟨w1.heap.size, 4, none⟩ = some (.int .i64 0) := hr.c4
      clear hrf hrf' hr hres hsd hrn
      go_wp2_with (go_at_call 161; refine (rd_next HR.out).mono ?_; rintro e w' ⟨rfl, m, rfl⟩)
      go_ret3
      refine ⟨HX2.out.drewN _, ?_⟩
      rw [HRES.out]
      refine ⟨b, rfl, ?_⟩
      exact (HRN2.out.mono (fun k _ hk => by show w.heap.size ≤ k; omega)).ext (S := fun _ => False) ((Ext.refl _ w2).drewN m) (fun k _ _ f => f)
    | false =>
      have hres : rdWhole N s.toList = .no 2 t.pos := by
        simp only [rdWhole, hrf]; rw [if_neg (by intro e; rw [e] at hem; exact absurd hem (by decide))]
      have HRES := hide hres
      clear hrf hrf' hr hres hsd hrn
      go_wp2_with first
        | (go_at_call 161; refine (rd_next HR.out).mono ?_; rintro e w' ⟨rfl, m, rfl⟩)
        | (go_at_call 162; refine (rd_fail_live _ (HR.out.drewN _)).mono ?_; rintro e w5 ⟨rfl, hx5, hr5⟩
           have c4 : w5.cell? ⟨w1.heap.size, 4, none⟩ = some (.int .i64 2) := hr5.c4
           have c5 : w5.cell? ⟨w1.heap.size, 5, none⟩ = some (.int .i64 t.pos) := hr5.c5
           have HX5 := hide hx5
           clear hx5 hr5)
      go_quiet (fail)
      go_wp2_with fail
      go_ret3
      refine ⟨?_, ?_⟩
      · exact ((HX2.out.drewN m).trans' HX5.out (fun i hi e => by have h1 : i = w1.heap.size := e; omega)).drewN _
      · rw [HRES.out]; exact ⟨rfl, by decide⟩

end Go.Proofs.YtegbdaffhpiacaaGreatDoor
