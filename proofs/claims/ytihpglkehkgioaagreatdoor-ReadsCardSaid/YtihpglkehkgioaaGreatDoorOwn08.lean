/- Plain lemmas on terms in brackets, and the end of one that has met an error. -/
import Derived.Test.YtihpglkehkgioaaGreatDoorOwn07
namespace Go.Proofs.YtihpglkehkgioaaGreatDoor
open Go.RowKit Ar

theorem num_open {s : ByteArray} (h : (s.toList == [40]) = true) : numOf s.toList = none := by
  rw [beq_iff_eq.1 h]; decide

/-- What a term in brackets comes to, behind its name. -/
def parenRes (F : List Tk → Rs Nd) (s1 : ByteArray) (k : Int) : Rs Unit → Rs Nd
  | .no e p => .no e p
  | .ok _ us => rdCloses 4 3 s1 (rdRow (List.replicate k.toNat F) us)

theorem nm_ok {N : List Nm} {d : Int} {t : Tk} {ts us0 : List Tk} {u : Unit} (h : nmStep N true (if 30 ≤ d then Rs.no 6 t.pos else Rs.ok () ts) = .ok u us0) : d < 30 ∧ ∃ u', ts = u' :: us0 ∧ nameErr N true u'.txt.toList = 0 := by
  by_cases hd : 30 ≤ d
  · rw [if_pos hd] at h; exact absurd h (by simp [nmStep])
  · rw [if_neg hd] at h
    cases ts with
    | nil => exact absurd h (by simp [nmStep])
    | cons a b =>
      simp only [nmStep] at h
      split at h
      · rename_i h0
        injection h with h1 h2
        exact ⟨by omega, a, by rw [h2], h0⟩
      · exact absurd h (by simp)

theorem ar_bd {w : World} {nb : Nat} {N : List Nm} (h : Names w nb N) {l : List UInt8} {a : Int} (ha : arOf N l = some a) : 0 ≤ a ∧ a ≤ 3 := by
  unfold arOf at ha
  cases hf : N.find? (fun x => x.name.toList == l) with
  | none => rw [hf] at ha; exact absurd ha (by simp)
  | some x =>
    rw [hf] at ha
    simp at ha
    obtain ⟨i, hi, hx⟩ := List.getElem_of_mem (List.mem_of_find?_eq_some hf)
    have := (h i x (by rw [List.getElem?_eq_getElem hi, hx])).2.2
    omega

theorem name_ok_ar {w : World} {nb : Nat} {N : List Nm} (h : Names w nb N) {l : List UInt8} (h0 : nameErr N true l = 0) : isName l = true ∧ ∃ a, arOf N l = some a ∧ 1 ≤ a ∧ a ≤ 3 := by
  unfold nameErr at h0
  split at h0
  · exact absurd h0 (by decide)
  · rename_i h1
    split at h0
    · exact absurd h0 (by decide)
    · rename_i h2
      split at h0
      · exact absurd h0 (by decide)
      · rename_i h3
        refine ⟨by simpa using h1, ?_⟩
        cases ha : arOf N l with
        | none => rw [ha] at h2; exact absurd (by decide) h2
        | some a =>
          have := ar_bd h ha
          rw [ha] at h3
          simp at h3
          exact ⟨a, rfl, by omega, this.2⟩

theorem one_byte (x : UInt8) : (ByteArray.mk #[x]).toList = [x] := by rw [ByteArray.toList_eq]

/-- A term in brackets whose name may stand there. -/
theorem rdTerm_paren {N : List Nm} {n : Nat} {d : Int} {t u' : Tk} {ts us0 : List Tk} {k : Int} (ho : (t.txt.toList == [40]) = true) (hd : d < 30) (hts : ts = u' :: us0) (hne : nameErr N true u'.txt.toList = 0) (hka : arOf N u'.txt.toList = some k) (hk1 : 1 ≤ k) :
    rdTerm N (n + 1) d (t :: ts) = rdCloses 4 3 u'.txt (rdRow (List.replicate k.toNat (rdArg (rdTerm N n (d + 1)))) us0) := by
  have hn : isName u'.txt.toList = true := by
    cases h : isName u'.txt.toList with
    | true => rfl
    | false => rw [nameErr, if_pos h] at hne; exact absurd hne (by decide)
  subst hts
  rw [rdTerm, if_pos (beq_iff_eq.1 ho), if_neg (by omega)]
  simp only [hn, hka, if_true]
  rw [if_neg (by omega)]

/-- A term in brackets that ends at its bracket or its name. -/
theorem rdTerm_noname {w : World} {nb : Nat} {N : List Nm} {n : Nat} {d e : Int} {p : Nat} {t : Tk} {ts : List Tk} (hN : Names w nb N) (ho : (t.txt.toList == [40]) = true) (hts : ts ≠ []) (h : nmStep N true (if 30 ≤ d then Rs.no 6 t.pos else Rs.ok () ts) = .no e p) :
    rdTerm N (n + 1) d (t :: ts) = .no e p := by
  obtain ⟨u, us, rfl⟩ : ∃ u us, ts = u :: us := by
    cases ts with
    | nil => exact absurd rfl hts
    | cons u us => exact ⟨u, us, rfl⟩
  rw [rdTerm, if_pos (beq_iff_eq.1 ho)]
  by_cases hd : 30 ≤ d
  · rw [if_pos hd] at h ⊢
    simpa [nmStep] using h
  · rw [if_neg hd] at h ⊢
    simp only [nmStep] at h
    split at h
    · exact absurd h (by simp)
    · rename_i h0
      injection h with h1 h2
      subst h1
      subst h2
      unfold nameErr at h0 ⊢
      cases hn : isName u.txt.toList with
      | false => simp
      | true =>
        rw [hn] at h0
        simp only [if_true]
        cases ha : arOf N u.txt.toList with
        | none => simp
        | some a =>
          have hb := ar_bd hN ha
          rw [ha] at h0
          simp only [Option.getD_some] at h0 ⊢
          by_cases h3 : a = 0
          · subst h3
            rw [if_pos rfl, if_neg (by decide), if_neg (by decide), if_pos (by decide)]
          · exfalso
            apply h0
            have : 0 < a := by omega
            rw [if_neg (by decide), if_neg (by omega), if_neg]
            simp [this]

/-- A term or formula in brackets that has met an error: its end. -/
theorem dead_end {w w5 : World} {c : Ctx} {L ts' : List Tk} {d pl d' e : Int} {p : Nat} {y0 y1 y2 y3 : Value} {f : ByteArray} (h1 : Ext (· = c.rb) w w5) (hrb : c.rb < w.heap.size) (htb : c.tb < w.heap.size) (hnb : c.nb < w.heap.size)
    (k5 : w5.heap[w.heap.size]? = some (.cells #[y0, y1, y2, y3, .string f] 117)) (hr : Rd w5 c ts' d' e p) (h0 : ¬ e = 0) (hsz : f.size + 2 ≤ 603 * L.length) :
    TermPost w c L d pl (.no e p) (.returned (.pointer (some ⟨w.heap.size, 0, none⟩))) (w5.setCell ⟨w.heap.size, 4, none⟩ (.string (f ++ ⟨#[41]⟩))) := by
  have hxe : Ext (· = w.heap.size) w5 (w5.setCell ⟨w.heap.size, 4, none⟩ (.string (f ++ ⟨#[41]⟩))) := (Ext.refl (· = w.heap.size) w5).setCell (p := ⟨w.heap.size, 4, none⟩) (fun _ => rfl) _
  have kW := block_setCell k5 4 (.string (f ++ ⟨#[41]⟩))
  have hr2 := hr.ext hxe (by show ¬ c.rb = w.heap.size; omega) (by show ¬ c.tb = w.heap.size; omega) (by show ¬ c.nb = w.heap.size; omega)
  refine ⟨w.heap.size, _, _, _, _, _, rfl, Nat.le_refl _, h1.trans' hxe (fun i hi e => by omega), kW, ?_, ⟨h0, ts', d', hr2⟩, fun nd ts' e => absurd e (by simp)⟩
  have g4 : (ByteArray.mk #[41]).size = 1 := rfl
  simp only [ByteArray.size_append']; omega

end Go.Proofs.YtihpglkehkgioaaGreatDoor
