/- Plain lemmas: the numbers in a tree that was read are small; a number's digits. -/
import Derived.Test.YtegbdaffhpiacaaGreatDoorOwn03
import Derived.Lib.ItoaNum
namespace Go.Proofs.YtegbdaffhpiacaaGreatDoor
namespace Ar

inductive NOk : Nd → Prop
  | mk {k v : Int} {w : ByteArray} {ps : List Nd} (h : k = 4 ∨ k = 5 → -1000 ≤ v ∧ v ≤ 1000) (hp : ∀ p ∈ ps, NOk p) : NOk (.mk k w v ps)

def Oks (f : List Tk → Rs Nd) : Prop := ∀ ts nd ts', f ts = .ok nd ts' → NOk nd

theorem row_oks (fs : List (List Tk → Rs Nd)) (h : ∀ f ∈ fs, Oks f) : ∀ ts ps ts', rdRow fs ts = .ok ps ts' → ∀ p ∈ ps, NOk p := by
  induction fs with
  | nil => intro ts ps ts' e; simp [rdRow] at e; obtain ⟨rfl, rfl⟩ := e; intro p hp; exact absurd hp (by simp)
  | cons f fs ih =>
    intro ts ps ts' e
    unfold rdRow at e
    split at e
    · exact absurd e (by simp)
    · rename_i a us hf
      split at e
      · exact absurd e (by simp)
      · rename_i as vs hr
        simp only [Rs.ok.injEq] at e
        obtain ⟨rfl, rfl⟩ := e
        intro p hp
        rcases List.mem_cons.1 hp with rfl | hp
        · exact h f (List.mem_cons_self ..) _ _ _ hf
        · exact ih (fun g hg => h g (List.mem_cons_of_mem _ hg)) _ _ _ hr p hp

theorem upTo_oks (m : Nat) (f : List Tk → Rs Nd) (h : Oks f) : ∀ ts ps ts', rdUpTo m f ts = .ok ps ts' → ∀ p ∈ ps, NOk p := by
  induction m with
  | zero => intro ts ps ts' e; exact absurd e (by simp [rdUpTo])
  | succ m ih =>
    intro ts ps ts' e
    cases ts with
    | nil => exact absurd e (by simp [rdUpTo])
    | cons t ts =>
      unfold rdUpTo at e
      split at e
      · simp only [Rs.ok.injEq] at e
        obtain ⟨rfl, rfl⟩ := e
        intro p hp; exact absurd hp (by simp)
      · split at e
        · exact absurd e (by simp)
        · rename_i a us hf
          split at e
          · exact absurd e (by simp)
          · rename_i as vs hr
            simp only [Rs.ok.injEq] at e
            obtain ⟨rfl, rfl⟩ := e
            intro p hp
            rcases List.mem_cons.1 hp with rfl | hp
            · exact h _ _ _ hf
            · exact ih _ _ _ hr p hp

theorem num_oks (k : Int) : Oks (rdNum k) := by
  intro ts nd ts' e
  cases ts with
  | nil => exact absurd e (by simp [rdNum])
  | cons t ts =>
    simp only [rdNum] at e
    split at e
    · exact absurd e (by simp)
    · split at e
      · exact absurd e (by simp)
      · rename_i v _ hv
        simp only [Rs.ok.injEq] at e
        obtain ⟨rfl, rfl⟩ := e
        exact .mk (fun _ => by omega) (fun p hp => absurd hp (by simp))

theorem closes_oks {e k : Int} {w : ByteArray} {r : Rs (List Nd)} {nd : Nd} {ts' : List Tk} (hk : ¬ (k = 4 ∨ k = 5)) (hr : ∀ ps us, r = .ok ps us → ∀ p ∈ ps, NOk p) (h : rdCloses e k w r = .ok nd ts') : NOk nd := by
  cases r with
  | no e p => exact absurd h (by simp [rdCloses])
  | ok ps us =>
    simp only [rdCloses] at h
    cases us with
    | nil => exact absurd h (by simp [rdShut])
    | cons v vs =>
      simp only [rdShut] at h
      split at h
      · simp only [Rs.ok.injEq] at h
        obtain ⟨rfl, rfl⟩ := h
        exact .mk (fun h => absurd h hk) (hr ps _ rfl)
      · split at h <;> exact absurd h (by simp)

theorem arg_oks {f : List Tk → Rs Nd} (h : Oks f) : Oks (rdArg f) := by
  intro ts nd ts' e
  cases ts with
  | nil => exact absurd e (by simp [rdArg])
  | cons t ts =>
    simp only [rdArg] at e
    split at e
    · exact absurd e (by simp)
    · exact h _ _ _ e

theorem term_oks (N : List Nm) (n : Nat) : ∀ d, Oks (rdTerm N n d) := by
  induction n with
  | zero => intro d ts nd ts' e; exact absurd e (by simp [rdTerm])
  | succ n ih =>
    intro d ts nd ts' e
    cases ts with
    | nil => exact absurd e (by simp [rdTerm])
    | cons t ts =>
      unfold rdTerm at e
      split at e
      · split at e
        · exact absurd e (by simp)
        · split at e
          · exact absurd e (by simp)
          · rename_i u us
            split at e
            · split at e
              · exact absurd e (by simp)
              · rename_i a _
                split at e
                · exact absurd e (by simp)
                · exact closes_oks (by decide) (fun ps vs hr => row_oks _ (fun f hf => by rw [(List.mem_replicate.1 hf).2]; exact arg_oks (ih (d + 1))) us ps vs hr) e
            · exact absurd e (by simp)
      · split at e
        · split at e
          · exact absurd e (by simp)
          · split at e
            · simp only [Rs.ok.injEq] at e
              obtain ⟨rfl, rfl⟩ := e
              exact .mk (fun h => absurd h (by decide)) (fun p hp => absurd hp (by simp))
            · exact absurd e (by simp)
        · exact num_oks 4 _ _ _ e

theorem hd_kind {l : List UInt8} {ks : Int × Int} (h : hdOf l = some ks) : ¬ (ks.1 = 4 ∨ ks.1 = 5) := by
  unfold hdOf at h
  repeat' (split at h)
  all_goals first | (simp only [Option.some.injEq] at h; subst h; decide) | exact absurd h (by simp)

theorem form_oks (N : List Nm) (n : Nat) : ∀ d, Oks (rdForm N n d) := by
  induction n with
  | zero => intro d ts nd ts' e; exact absurd e (by simp [rdForm])
  | succ n ih =>
    intro d ts nd ts' e
    cases ts with
    | nil => exact absurd e (by simp [rdForm])
    | cons t ts =>
      unfold rdForm at e
      split at e
      · split at e
        · exact absurd e (by simp)
        · split at e
          · exact absurd e (by simp)
          · rename_i u us
            split at e
            · exact absurd e (by simp)
            · rename_i ks hks
              refine closes_oks (hd_kind hks) (fun ps vs hr => ?_) e
              unfold rdParts at hr
              have hT := term_oks N n (d + 1)
              have hF := ih (d + 1)
              split at hr
              · exact row_oks _ (by intro f hf; simp at hf; subst hf; exact hF) us ps vs hr
              · split at hr
                · exact row_oks _ (by intro f hf; simp at hf; subst hf; exact hF) us ps vs hr
                · split at hr
                  · exact row_oks _ (by intro f hf; simp at hf; subst hf; exact hT) us ps vs hr
                  · split at hr
                    · exact row_oks _ (by intro f hf; simp at hf; rcases hf with rfl | rfl <;> first | exact hT | exact num_oks 5) us ps vs hr
                    · exact upTo_oks _ _ hF us ps vs hr
      · split at e
        · simp only [Rs.ok.injEq] at e
          obtain ⟨rfl, rfl⟩ := e
          exact .mk (fun h => absurd h (by decide)) (fun p hp => absurd hp (by simp))
        · exact absurd e (by simp)

theorem itoaN_lib (f : Nat) : ∀ n, n < 10 ^ (f + 1) → itoaN f n = Lib.decDigits n := by
  induction f with
  | zero => intro n hn; rw [Lib.decDigits, dif_pos (by simpa using hn)]; rfl
  | succ f ih =>
    intro n hn
    unfold itoaN
    rw [Lib.decDigits]
    by_cases h : n < 10
    · rw [if_pos h, dif_pos h]; rfl
    · rw [if_neg h, dif_neg h, ih (n / 10) (by rw [Nat.pow_succ] at hn; omega)]; rfl

theorem itoa_lib {v : Int} (h1 : -1000 ≤ v) (h2 : v ≤ 1000) : Lib.itoa v = itoa v := by
  unfold Lib.itoa itoa
  by_cases h : v < 0
  · rw [if_pos h, if_pos h, itoaN_lib 3 _ (by omega), show v.natAbs = (-v).toNat from by omega]
  · rw [if_neg h, if_neg h, itoaN_lib 3 _ (by omega)]

end Ar
end Go.Proofs.YtegbdaffhpiacaaGreatDoor
