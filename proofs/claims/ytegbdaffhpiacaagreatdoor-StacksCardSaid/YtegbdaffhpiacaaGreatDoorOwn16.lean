/- The reader of the document's own answer: a formula, whatever comes. -/
import Derived.Test.YtegbdaffhpiacaaGreatDoorOwn10
import Derived.Test.YtegbdaffhpiacaaGreatDoorOwn13
import Derived.Test.YtegbdaffhpiacaaGreatDoorOwn09
import Derived.Test.YtegbdaffhpiacaaGreatDoorOwn14
import Derived.Test.YtegbdaffhpiacaaGreatDoorOwn15
namespace Go.Proofs.YtegbdaffhpiacaaGreatDoor
open Go.RowKit Ar

theorem rdForm_open {N : List Nm} {n : Nat} {d : Int} {t u : Tk} {us0 : List Tk} {ks : Int × Int} (ho : t.txt.toList = [40]) (hd : d < 30) (hk : hdOf u.txt.toList = some ks) :
    rdForm N (n + 1) d (t :: u :: us0) = rdCloses 2 ks.1 u.txt (rdParts ks.2 n (rdForm N n (d + 1)) (rdTerm N n (d + 1)) (rdNum 5) us0) := by
  rw [rdForm, if_pos ho, if_neg (by omega)]
  simp only [hk]

theorem form_any (c : Ctx) (n : Nat) : ∀ (w : World) (ts : List Tk) (d pl : Int), ts.length ≤ n → Rd w c ts d 0 pl → Calls Tryz.prog 160 #[.pointer (some ⟨c.rb, 0, none⟩)] w (TermPost w c ts d pl (rdForm c.N n d ts)) := by
  induction n with
  | zero =>
    intro w ts d pl hn h
    obtain ⟨t, us, rfl⟩ := h.head
    simp at hn
  | succ n ih =>
    intro w ts d pl hn h
    obtain ⟨t, us, rfl⟩ := h.head
    cases ho : (t.txt.toList == [40]) with
    | true =>
      have ho' : t.txt.toList = [40] := beq_iff_eq.1 ho
      have h1 := h.wf.tail (by rw [ho']; simp)
      obtain ⟨u, us0, rfl⟩ : ∃ u us0, us = u :: us0 := by
        cases us with
        | nil => exact absurd rfl h1.ne
        | cons u us0 => exact ⟨u, us0, rfl⟩
      by_cases hd : d < 30
      · have hn0 : us0.length < n := by simp at hn; omega
        by_cases e1 : u.txt.toList = [110, 111, 116]
        · rw [rdForm_open (ks := (1, 0)) ho' hd (by rw [e1]; decide)]; exact form_not h ho hd e1 hn0 ih
        by_cases e2 : u.txt.toList = [97, 110, 100]
        · rw [rdForm_open (ks := (1, 2)) ho' hd (by rw [e2]; decide)]; exact form_and h ho hd e2 hn0 ih
        by_cases e3 : u.txt.toList = [111, 114]
        · rw [rdForm_open (ks := (1, 2)) ho' hd (by rw [e3]; decide)]; exact form_or h ho hd e3 hn0 ih
        by_cases e4 : u.txt.toList = [61, 62]
        · rw [rdForm_open (ks := (1, 1)) ho' hd (by rw [e4]; decide)]; exact form_imp h ho hd e4 hn0 ih
        by_cases e5 : u.txt.toList = [105, 102, 102]
        · rw [rdForm_open (ks := (1, 1)) ho' hd (by rw [e5]; decide)]; exact form_iff h ho hd e5 hn0 ih
        by_cases e6 : u.txt.toList = [61]
        · rw [rdForm_open (ks := (2, 3)) ho' hd (by rw [e6]; decide)]; exact form_eq h ho hd e6 hn0
        by_cases e7 : u.txt.toList = [60]
        · rw [rdForm_open (ks := (2, 3)) ho' hd (by rw [e7]; decide)]; exact form_lt h ho hd e7 hn0
        by_cases e8 : u.txt.toList = [60, 61]
        · rw [rdForm_open (ks := (2, 3)) ho' hd (by rw [e8]; decide)]; exact form_leq h ho hd e8 hn0
        by_cases e9 : u.txt.toList = [108, 101]
        · rw [rdForm_open (ks := (2, 4)) ho' hd (by rw [e9]; decide)]; exact form_le h ho hd e9 hn0
        have hk : hdOf u.txt.toList = none := by
          simp only [hdOf, wNot, wAnd, wOr, wIff, wLe, if_neg e1, if_neg e2, if_neg e3, if_neg e4, if_neg e5, if_neg e6, if_neg e7, if_neg e8]
          exact if_neg e9
        have er : rdForm c.N (n + 1) d (t :: u :: us0) = .no 2 u.pos := by
          rw [rdForm, if_pos ho', if_neg (by omega)]
          simp only [hk]
        rw [er]
        exact form_bad h ho hd hk
      · have hd30 : d = 30 := by have := h.dhi; omega
        have er : rdForm c.N (n + 1) d (t :: u :: us0) = .no (if (t.txt.toList == [40]) = true then 6 else 2) t.pos := by
          rw [rdForm, if_pos ho', if_pos (by omega), if_pos ho]
        rw [er]
        exact form_noopen h (by rw [ho']; decide) (by rw [ho']; decide) (Or.inr hd30)
    | false =>
      have ho' : ¬ t.txt.toList = [40] := by simpa using ho
      by_cases ht : t.txt.toList = wTrue ∨ t.txt.toList = wFalse
      · have er : rdForm c.N (n + 1) d (t :: us) = .ok (.mk 0 t.txt 0 []) us := by
          rw [rdForm.eq_def]
          simp only
          rw [if_neg ho', if_pos ht]
        rw [er]
        exact form_truth h ht
      · have er : rdForm c.N (n + 1) d (t :: us) = .no (if (t.txt.toList == [40]) = true then 6 else 2) t.pos := by
          rw [rdForm.eq_def]
          simp only
          rw [if_neg ho', if_neg ht, if_neg (by rw [ho]; decide)]
        rw [er]
        exact form_noopen h (by cases hq : (t.txt.toList == [116, 114, 117, 101]) with | false => rfl | true => exact absurd (Or.inl (beq_iff_eq.1 hq)) ht) (by cases hq : (t.txt.toList == [102, 97, 108, 115, 101]) with | false => rfl | true => exact absurd (Or.inr (beq_iff_eq.1 hq)) ht) (Or.inl ho)

end Go.Proofs.YtegbdaffhpiacaaGreatDoor
