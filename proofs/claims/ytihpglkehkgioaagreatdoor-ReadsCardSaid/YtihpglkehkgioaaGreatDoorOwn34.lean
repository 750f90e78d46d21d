/- Plain lemmas: reading goes on as long as there are tokens, and an error is never 0. -/
import Derived.Test.YtihpglkehkgioaaGreatDoorOwn03
namespace Go.Proofs.YtihpglkehkgioaaGreatDoor
namespace Ar

def Gd (n : Nat) (f : List Tk → Rs Nd) : Prop := ∀ ts, TW ts → ts.length ≤ n → (∀ e p, f ts = .no e p → e ≠ 0) ∧ (∀ nd ts', f ts = .ok nd ts' → TW ts' ∧ ts'.length < ts.length)

def GdL (r : Rs (List Nd)) (ts : List Tk) : Prop := (∀ e p, r = .no e p → e ≠ 0) ∧ (∀ ps ts', r = .ok ps ts' → TW ts' ∧ ts'.length ≤ ts.length)

theorem Gd.mono {n m : Nat} {f : List Tk → Rs Nd} (h : Gd n f) (hm : m ≤ n) : Gd m f := fun ts hw hl => h ts hw (by omega)

theorem row_gd (n : Nat) (fs : List (List Tk → Rs Nd)) (h : ∀ f ∈ fs, Gd n f) : ∀ ts, TW ts → ts.length ≤ n → GdL (rdRow fs ts) ts := by
  induction fs with
  | nil => intro ts hw _; exact ⟨fun e p h => by simp [rdRow] at h, fun ps ts' h => by simp [rdRow] at h; obtain ⟨_, rfl⟩ := h; exact ⟨hw, Nat.le_refl _⟩⟩
  | cons f fs ih =>
    intro ts hw hl
    have hf := h f (List.mem_cons_self ..) ts hw hl
    have ih' := ih (fun g hg => h g (List.mem_cons_of_mem _ hg))
    unfold rdRow
    cases hr : f ts with
    | no e p => exact ⟨fun e' p' h' => by simp at h'; obtain ⟨rfl, rfl⟩ := h'; exact hf.1 _ _ hr, fun ps ts' h' => by simp at h'⟩
    | ok a us =>
      have h1 := hf.2 _ _ hr
      have h2 := ih' us h1.1 (by omega)
      cases hq : rdRow fs us with
      | no e p => exact ⟨fun e' p' h' => by simp [hq] at h'; obtain ⟨rfl, rfl⟩ := h'; exact h2.1 _ _ hq, fun ps ts' h' => by simp [hq] at h'⟩
      | ok as vs =>
        have h3 := h2.2 _ _ hq
        exact ⟨fun e' p' h' => by simp [hq] at h', fun ps ts' h' => by simp [hq] at h'; obtain ⟨_, rfl⟩ := h'; exact ⟨h3.1, by omega⟩⟩

theorem upTo_gd (n : Nat) (f : List Tk → Rs Nd) (h : Gd n f) (m : Nat) : ∀ ts, TW ts → ts.length ≤ n → ts.length ≤ m → GdL (rdUpTo m f ts) ts := by
  induction m with
  | zero =>
    intro ts hw _ hl
    cases ts with
    | nil => exact absurd hw (by simp [TW])
    | cons t ts => simp at hl
  | succ m ih =>
    intro ts hw hl hm
    cases ts with
    | nil => exact absurd hw (by simp [TW])
    | cons t ts =>
      have hf := h (t :: ts) hw hl
      unfold rdUpTo
      by_cases hc : t.txt.toList = [41]
      · rw [if_pos hc]
        exact ⟨fun e' p' h' => by simp at h', fun ps ts' h' => by simp at h'; obtain ⟨_, rfl⟩ := h'; exact ⟨hw, Nat.le_refl _⟩⟩
      · rw [if_neg hc]
        cases hr : f (t :: ts) with
        | no e p => exact ⟨fun e' p' h' => by simp at h'; obtain ⟨rfl, rfl⟩ := h'; exact hf.1 _ _ hr, fun ps ts' h' => by simp at h'⟩
        | ok a us =>
          have h1 := hf.2 _ _ hr
          have h2 := ih us h1.1 (by omega) (by omega)
          cases hq : rdUpTo m f us with
          | no e p => exact ⟨fun e' p' h' => by simp [hq] at h'; obtain ⟨rfl, rfl⟩ := h'; exact h2.1 _ _ hq, fun ps ts' h' => by simp [hq] at h'⟩
          | ok as vs =>
            have h3 := h2.2 _ _ hq
            exact ⟨fun e' p' h' => by simp [hq] at h', fun ps ts' h' => by simp [hq] at h'; obtain ⟨_, rfl⟩ := h'; exact ⟨h3.1, by omega⟩⟩

theorem num_gd (n : Nat) (k : Int) : Gd n (rdNum k) := by
  intro ts hw _
  cases ts with
  | nil => exact absurd hw (by simp [TW])
  | cons t ts =>
    simp only [rdNum]
    cases hn : numOf t.txt.toList with
    | none => exact ⟨fun e' p' h' => by simp at h'; obtain ⟨rfl, rfl⟩ := h'; decide, fun ps ts' h' => by simp at h'⟩
    | some v =>
      have hne : t.txt.toList ≠ [] := by
        intro e; rw [e, show numOf [] = none from by decide] at hn; cases hn
      by_cases hv : v < -1000 ∨ 1000 < v
      · simp only [if_pos hv]
        exact ⟨fun e' p' h' => by simp at h'; obtain ⟨rfl, rfl⟩ := h'; decide, fun ps ts' h' => by simp at h'⟩
      · simp only [if_neg hv]
        exact ⟨fun e' p' h' => by simp at h', fun ps ts' h' => by simp at h'; obtain ⟨_, rfl⟩ := h'; exact ⟨hw.tail hne, by simp⟩⟩

theorem closes_gd {e k : Int} {w : ByteArray} {r : Rs (List Nd)} {ts : List Tk} (he : e ≠ 0) (h : GdL r ts) : (∀ e' p, rdCloses e k w r = .no e' p → e' ≠ 0) ∧ (∀ nd ts', rdCloses e k w r = .ok nd ts' → TW ts' ∧ ts'.length < ts.length) := by
  cases r with
  | no e1 p1 => exact ⟨fun e' p' h' => by simp [rdCloses] at h'; obtain ⟨rfl, rfl⟩ := h'; exact h.1 _ _ rfl, fun ps ts' h' => by simp [rdCloses] at h'⟩
  | ok ps us =>
    have h1 := h.2 _ _ rfl
    cases us with
    | nil => exact absurd h1.1 (by simp [TW])
    | cons v vs =>
      simp only [rdCloses, rdShut]
      by_cases hc : v.txt.toList = [41]
      · rw [if_pos hc]
        refine ⟨fun e' p' h' => by simp at h', fun nd ts' h' => ?_⟩
        simp at h'
        obtain ⟨_, rfl⟩ := h'
        have h2 := h1.2
        exact ⟨h1.1.tail (by rw [hc]; simp), by simp at h2; omega⟩
      · rw [if_neg hc]
        by_cases hv : v.txt.toList = []
        · rw [if_pos hv]
          exact ⟨fun e' p' h' => by simp at h'; obtain ⟨rfl, rfl⟩ := h'; decide, fun ps ts' h' => by simp at h'⟩
        · rw [if_neg hv]
          exact ⟨fun e' p' h' => by simp at h'; obtain ⟨rfl, rfl⟩ := h'; exact he, fun ps ts' h' => by simp at h'⟩

theorem arg_gd {n : Nat} {f : List Tk → Rs Nd} (h : Gd n f) : Gd n (rdArg f) := by
  intro ts hw hl
  cases ts with
  | nil => exact absurd hw (by simp [TW])
  | cons t ts =>
    simp only [rdArg]
    by_cases hc : t.txt.toList = [41]
    · rw [if_pos hc]
      exact ⟨fun e' p' h' => by simp at h'; obtain ⟨rfl, rfl⟩ := h'; decide, fun ps ts' h' => by simp at h'⟩
    · rw [if_neg hc]; exact h _ hw hl

theorem no_gd {e : Int} {p : Nat} {ts : List Tk} (he : e ≠ 0) : (∀ e' p', (Rs.no e p : Rs Nd) = .no e' p' → e' ≠ 0) ∧ (∀ nd ts', (Rs.no e p : Rs Nd) = .ok nd ts' → TW ts' ∧ ts'.length < ts.length) :=
  ⟨fun e' p' h' => by simp at h'; obtain ⟨rfl, rfl⟩ := h'; exact he, fun ps ts' h' => by simp at h'⟩

theorem ok_gd {nd : Nd} {us ts : List Tk} (h : TW us) (hl : us.length < ts.length) : (∀ e' p', (Rs.ok nd us : Rs Nd) = .no e' p' → e' ≠ 0) ∧ (∀ nd' ts', (Rs.ok nd us : Rs Nd) = .ok nd' ts' → TW ts' ∧ ts'.length < ts.length) :=
  ⟨fun e' p' h' => by simp at h', fun ps ts' h' => by simp at h'; obtain ⟨_, rfl⟩ := h'; exact ⟨h, hl⟩⟩

theorem term_gd (N : List Nm) (n : Nat) : ∀ d, Gd n (rdTerm N n d) := by
  induction n with
  | zero =>
    intro d ts hw hl
    cases ts with
    | nil => exact absurd hw (by simp [TW])
    | cons t ts => simp at hl
  | succ n ih =>
    intro d ts hw hl
    cases ts with
    | nil => exact absurd hw (by simp [TW])
    | cons t ts =>
      unfold rdTerm
      by_cases ho : t.txt.toList = [40]
      · have h1 := hw.tail (by rw [ho]; simp)
        rw [if_pos ho]
        by_cases hd : 30 ≤ d
        · rw [if_pos hd]; exact no_gd (by decide)
        · rw [if_neg hd]
          cases ts with
          | nil => exact absurd h1 (by simp [TW])
          | cons u us =>
            simp only
            by_cases hn : isName u.txt.toList = true
            · rw [if_pos hn]
              cases ha : arOf N u.txt.toList with
              | none => exact no_gd (by decide)
              | some a =>
                simp only
                by_cases h0 : a = 0
                · rw [if_pos h0]; exact no_gd (by decide)
                · rw [if_neg h0]
                  have hune : u.txt.toList ≠ [] := by
                    intro e; rw [e] at hn; exact absurd hn (by decide)
                  have h2 := h1.tail hune
                  have h3 := closes_gd (k := 3) (w := u.txt) (by decide : (4 : Int) ≠ 0) (row_gd n (List.replicate a.toNat (rdArg (rdTerm N n (d + 1)))) (fun f hf => by rw [(List.mem_replicate.1 hf).2]; exact arg_gd (ih (d + 1))) us h2 (by simp at hl; omega))
                  exact ⟨h3.1, fun nd ts' h' => ⟨(h3.2 nd ts' h').1, by have := (h3.2 nd ts' h').2; simp; omega⟩⟩
            · rw [if_neg hn]; exact no_gd (by decide)
      · rw [if_neg ho]
        by_cases hn : isName t.txt.toList = true
        · rw [if_pos hn]
          cases ha : arOf N t.txt.toList with
          | none => exact no_gd (by decide)
          | some a =>
            simp only
            by_cases h0 : a = 0
            · rw [if_pos h0]
              have hune : t.txt.toList ≠ [] := by
                intro e; rw [e] at hn; exact absurd hn (by decide)
              exact ok_gd (hw.tail hune) (by simp)
            · rw [if_neg h0]; exact no_gd (by decide)
        · rw [if_neg hn]; exact num_gd (n + 1) 4 _ hw hl

theorem form_gd (N : List Nm) (n : Nat) : ∀ d, Gd n (rdForm N n d) := by
  induction n with
  | zero =>
    intro d ts hw hl
    cases ts with
    | nil => exact absurd hw (by simp [TW])
    | cons t ts => simp at hl
  | succ n ih =>
    intro d ts hw hl
    cases ts with
    | nil => exact absurd hw (by simp [TW])
    | cons t ts =>
      unfold rdForm
      by_cases ho : t.txt.toList = [40]
      · have h1 := hw.tail (by rw [ho]; simp)
        rw [if_pos ho]
        by_cases hd : 30 ≤ d
        · rw [if_pos hd]; exact no_gd (by decide)
        · rw [if_neg hd]
          cases ts with
          | nil => exact absurd h1 (by simp [TW])
          | cons u us =>
            simp only
            cases hh : hdOf u.txt.toList with
            | none => exact no_gd (by decide)
            | some ks =>
              simp only
              have hune : u.txt.toList ≠ [] := by
                intro e; rw [e, show hdOf [] = none from by decide] at hh; cases hh
              have h2 := h1.tail hune
              have hus : us.length ≤ n := by simp at hl; omega
              have hF := ih (d + 1)
              have hT := term_gd N n (d + 1)
              have hG : GdL (rdParts ks.2 n (rdForm N n (d + 1)) (rdTerm N n (d + 1)) (rdNum 5) us) us := by
                unfold rdParts
                by_cases s0 : ks.2 = 0
                · rw [if_pos s0]; exact row_gd n _ (by intro f hf; simp at hf; subst hf; exact hF) us h2 hus
                rw [if_neg s0]
                by_cases s1 : ks.2 = 1
                · rw [if_pos s1]; exact row_gd n _ (by intro f hf; simp at hf; subst hf; exact hF) us h2 hus
                rw [if_neg s1]
                by_cases s3 : ks.2 = 3
                · rw [if_pos s3]; exact row_gd n _ (by intro f hf; simp at hf; subst hf; exact hT) us h2 hus
                rw [if_neg s3]
                by_cases s4 : ks.2 = 4
                · rw [if_pos s4]; exact row_gd n _ (by intro f hf; simp at hf; rcases hf with rfl | rfl <;> first | exact hT | exact num_gd n 5) us h2 hus
                rw [if_neg s4]
                exact upTo_gd n _ hF n us h2 hus hus
              have h3 := closes_gd (k := ks.1) (w := u.txt) (by decide : (2 : Int) ≠ 0) hG
              exact ⟨h3.1, fun nd ts' h' => ⟨(h3.2 nd ts' h').1, by have := (h3.2 nd ts' h').2; simp; omega⟩⟩
      · rw [if_neg ho]
        by_cases hq : t.txt.toList = wTrue ∨ t.txt.toList = wFalse
        · rw [if_pos hq]
          exact ok_gd (hw.tail (by rcases hq with e | e <;> rw [e] <;> decide)) (by simp)
        · rw [if_neg hq]; exact no_gd (by decide)

end Ar
end Go.Proofs.YtihpglkehkgioaaGreatDoor
