/- What the program's start has laid: the table of first words; a script as it lies in memory. -/
import Derived.Test.YtegbdaffhpiacaaGreatDoorOwn08
import Derived.Test.YtegbdaffhpiacaaGreatDoorRows
import Derived.Lib.LaidTab
import Derived.Lib.SmallJoins
import Derived.ProofKit
import Derived.OpenShut
import Derived.Deep.Strs
namespace Go.Proofs.YtegbdaffhpiacaaGreatDoor
open Go.RowKit Go.ChangeShapes Go.Deep Go.Joins Ar

theorem chunks3 (f : Nat → List Value) : ∀ (n : Nat) (l : List Value), l.length = 3 * n → (∀ i, i < n → (l.drop (3 * i)).take 3 = f i) → l = (List.range n).flatMap f
  | 0, l, hl, _ => by simpa using hl
  | n + 1, l, hl, h => by
    have e1 := chunks3 f n (l.take (3 * n)) (by simp; omega) (fun i hi => by
      rw [List.drop_take, List.take_take, Nat.min_eq_left (by omega)]; exact h i (by omega))
    have e2 := h n (by omega)
    rw [List.take_of_length_le (by simp; omega)] at e2
    rw [List.range_succ, List.flatMap_append, ← e1]
    simp [← e2]

section
variable {H : Type} {enc : TypeId × Value → H} {P : Program} {w : World} {base : Nat} {spare : Nat → Bool} {held : Bool}

theorem list3 {α : Type} {l : List α} (h : l.length = 3) : ∃ a b c, l = [a, b, c] := by
  match l, h with
  | [a, b, c], _ => exact ⟨a, b, c, rfl⟩

theorem list4 {α : Type} {l : List α} (h : l.length = 4) : ∃ a b c d, l = [a, b, c, d] := by
  match l, h with
  | [a, b, c, d], _ => exact ⟨a, b, c, d, rfl⟩

theorem cells_struct3 {t : TypeId} {f0 f1 f2 : Field} {fuel : Nat} {cs : List Value} {x : DataW H × List MemPlace} (hs : P.underlying t = some (.struct #[f0, f1, f2])) (hone : oneCellFields P #[f0, f1, f2] = true) (hC : P.cellsOf t = 3)
    (h : DataW.trod enc P w base spare held fuel t cs = some x) :
    ∃ (v0 v1 v2 : Value) (y0 y1 y2 : DataW H × List MemPlace) (n : Nat), cs = [v0, v1, v2] ∧ x.1 = .agg [y0.1, y1.1, y2.1] ∧
      DataW.trod enc P w base spare held n f0.type [v0] = some y0 ∧ DataW.trod enc P w base spare held n f1.type [v1] = some y1 ∧ DataW.trod enc P w base spare held n f2.type [v2] = some y2 := by
  obtain ⟨y0, y1, y2, n, hx, hl, h0, h1, h2⟩ := trod_struct3 hs h
  obtain ⟨c0, c1, c2, rfl⟩ := list3 (hl.trans hC)
  obtain ⟨o0, k0⟩ := hone_of hone 0 f0 rfl
  obtain ⟨o1, k1⟩ := hone_of hone 1 f1 rfl
  obtain ⟨o2, k2⟩ := hone_of hone 2 f2 rfl
  exact ⟨c0, c1, c2, y0, y1, y2, n, rfl, by rw [hx], by simpa [o0, k0] using h0, by simpa [o1, k1] using h1, by simpa [o2, k2] using h2⟩

theorem cells_struct4 {t : TypeId} {f0 f1 f2 f3 : Field} {fuel : Nat} {cs : List Value} {x : DataW H × List MemPlace} (hs : P.underlying t = some (.struct #[f0, f1, f2, f3])) (hone : oneCellFields P #[f0, f1, f2, f3] = true) (hC : P.cellsOf t = 4)
    (h : DataW.trod enc P w base spare held fuel t cs = some x) :
    ∃ (v0 v1 v2 v3 : Value) (y0 y1 y2 y3 : DataW H × List MemPlace) (n : Nat), cs = [v0, v1, v2, v3] ∧
      DataW.trod enc P w base spare held n f0.type [v0] = some y0 ∧ DataW.trod enc P w base spare held n f1.type [v1] = some y1 ∧ DataW.trod enc P w base spare held n f2.type [v2] = some y2 ∧ DataW.trod enc P w base spare held n f3.type [v3] = some y3 := by
  obtain ⟨y0, y1, y2, y3, n, hx, hl, h0, h1, h2, h3⟩ := trod_struct4 hs h
  obtain ⟨c0, c1, c2, c3, rfl⟩ := list4 (hl.trans hC)
  obtain ⟨o0, k0⟩ := hone_of hone 0 f0 rfl
  obtain ⟨o1, k1⟩ := hone_of hone 1 f1 rfl
  obtain ⟨o2, k2⟩ := hone_of hone 2 f2 rfl
  obtain ⟨o3, k3⟩ := hone_of hone 3 f3 rfl
  exact ⟨c0, c1, c2, c3, y0, y1, y2, y3, n, rfl, by simpa [o0, k0] using h0, by simpa [o1, k1] using h1, by simpa [o2, k2] using h2, by simpa [o3, k3] using h3⟩

/-- A struct of a text and two numbers, out of its datum. -/
theorem head_of {t ts tk tq : TypeId} {f0 f1 f2 : Field} (hs : P.underlying t = some (.struct #[f0, f1, f2])) (hone : oneCellFields P #[f0, f1, f2] = true) (hC : P.cellsOf t = 3) (e0 : f0.type = ts) (e1 : f1.type = tk) (e2 : f2.type = tq)
    (h0 : P.underlying ts = some .string) (h1 : P.underlying tk = some (.int .i64)) (h2 : P.underlying tq = some (.int .i64)) {n : Nat} {cs : List Value} {y : DataW H × List MemPlace} (h : DataW.trod enc P w base spare held n t cs = some y)
    {s : ByteArray} {x k : Int} (hy : y.1 = .agg [.lit (.string s.data.toList), .lit (.int .i64 x), .lit (.int .i64 k)]) : cs = [.string s, .int .i64 x, .int .i64 k] := by
  subst e0 e1 e2
  obtain ⟨v0, v1, v2, y0, y1, y2, m, rfl, hx, g0, g1, g2⟩ := cells_struct3 hs hone hC h
  obtain ⟨s0, c0, rfl, _⟩ := DataW.trod_string h0 g0
  obtain ⟨x0, c1, rfl, _⟩ := DataW.trod_int h1 g1
  obtain ⟨k0, c2, rfl, _⟩ := DataW.trod_int h2 g2
  rw [hx] at hy
  simp only [DataW.agg.injEq, List.cons.injEq, DataW.lit.injEq, Lit.string.injEq, Lit.int.injEq, true_and, and_true] at hy
  obtain ⟨hb, rfl, rfl⟩ := hy
  have : s0 = s := by
    obtain ⟨d0⟩ := s0
    obtain ⟨d⟩ := s
    congr 1
    exact Array.ext' hb
  subst this
  simp only [List.cons.injEq, and_true] at c0 c1 c2
  rw [c0, c1, c2]

/-- Four cells of a step, out of its reading. -/
theorem op_of {t ti ts : TypeId} {f0 f1 f2 f3 : Field} (hs : P.underlying t = some (.struct #[f0, f1, f2, f3])) (hone : oneCellFields P #[f0, f1, f2, f3] = true) (hC : P.cellsOf t = 4) (e0 : f0.type = ti) (e1 : f1.type = ti) (e2 : f2.type = ts) (e3 : f3.type = ti)
    (h0 : P.underlying ti = some (.int .i64)) (h2 : P.underlying ts = some .string) {n : Nat} {cs : List Value} {y : DataW H × List MemPlace} (h : DataW.trod enc P w base spare held n t cs = some y) :
    ∃ (k on : Int) (s : ByteArray) (a : Int), cs = [.int .i64 k, .int .i64 on, .string s, .int .i64 a] ∧ s.size ≤ maxLen ∧ -9223372036854775808 ≤ on ∧ on ≤ 9223372036854775807 := by
  subst e0 e2
  rw [← e1] at h0
  obtain ⟨v0, v1, v2, v3, y0, y1, y2, y3, m, rfl, g0, g1, g2, g3⟩ := cells_struct4 hs hone hC h
  rw [← e1] at g0
  rw [e3, ← e1] at g3
  obtain ⟨k, c0, _, _⟩ := DataW.trod_int h0 g0
  obtain ⟨on, c1, _, wf⟩ := DataW.trod_int h0 g1
  obtain ⟨s, c2, _, hl⟩ := DataW.trod_string h2 g2
  obtain ⟨a, c3, _, _⟩ := DataW.trod_int h0 g3
  simp only [List.cons.injEq, and_true] at c0 c1 c2 c3
  have hb := bounds_i64 wf
  exact ⟨k, on, s, a, by rw [c0, c1, c2, c3], hl, hb.1, hb.2⟩

/-- A slice whose elements take four cells, out of its reading: its address, and of each element its cells with their reading. -/
theorem slice4_of {t e : TypeId} (ht : P.underlying t = some (.slice e)) (he : P.cellsOf e = 4) {sa : Option Addr} {n cap : Nat} {d : DataW H} {p : List MemPlace} (h : DataW.Trod enc P w 0 (fun _ => true) true t (.slice sa n cap) d p) :
    n ≤ maxLen ∧ ∀ i, i < n → ∃ (a : Addr) (cs : List Value) (q : Nat) (y : DataW H × List MemPlace), sa = some a ∧ a.spot = none ∧ a.block < w.heap.size ∧ w.cells? 0 (a.add (i * 4)) 4 = some cs ∧ DataW.trod enc P w 0 (fun _ => true) true q e cs = some y := by
  obtain ⟨fuel, hf⟩ := h
  rcases open_slice ht hf with ⟨hcs, _⟩ | ⟨a, len, cp, m, q, D, Pl, hcs, _, hl, hm, hmm, _, hel⟩
  · have e0 : Value.slice sa n cap = .slice none 0 0 := by simpa [Value.cells] using hcs
    cases e0
    exact ⟨Nat.zero_le _, fun i hi => absurd hi (by omega)⟩
  · have e0 : Value.slice sa n cap = .slice (some a) len cp := by simpa [Value.cells] using hcs
    cases e0
    refine ⟨Nat.le_trans hl hm, fun i hi => ?_⟩
    rw [if_pos rfl] at hmm
    obtain ⟨cs, hc, hy⟩ := hel i (by omega)
    obtain ⟨cs0, hc0, _⟩ := hel 0 (by omega)
    rw [he] at hc hc0
    have hsp : a.spot = none := by
      obtain ⟨_, hlen, hcell⟩ := World.cells?_some hc0
      have h0 := hcell 0 (by decide)
      rw [List.getElem?_eq_getElem (by omega)] at h0
      have := World.cell?_spot h0
      have e1 : a.add (0 * 4) = a := by simp [Addr.add]
      have e2 : a.add 0 = a := by simp [Addr.add]
      simpa [e1, e2] using this
    have hlt := World.cells?_block hc (by decide)
    have hb : (a.add (i * 4)).block = a.block := by unfold Addr.add; split <;> rfl
    rw [hb] at hlt
    exact ⟨a, cs, q, _, rfl, hsp, hlt, hc, hy⟩
end

end Go.Proofs.YtegbdaffhpiacaaGreatDoor
