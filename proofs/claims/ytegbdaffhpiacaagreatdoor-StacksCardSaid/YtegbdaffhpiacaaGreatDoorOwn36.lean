/- What the program's start has laid, at this program; a script that came in. -/
import Derived.Test.YtegbdaffhpiacaaGreatDoorOwn35
import Derived.Test.YtegbdaffhpiacaaGreatDoorOwn22
import Derived.Test.YtegbdaffhpiacaaGreatDoorOwn24
namespace Go.Proofs.YtegbdaffhpiacaaGreatDoor
open Go.RowKit Go.ChangeShapes Go.Deep Go.Joins Ar

theorem gHeads : Tryz.prog.globalNamed "arbiter/syntax.heads" = some 0 := by kernel_rfl
theorem tHeads : (Tryz.prog.globals[0]?).map (·.type) = some 321 := by kernel_rfl
theorem gTen : Tryz.prog.globalNamed "internal/strconv.uint64pow10" = some 2 := by kernel_rfl
theorem tTen : (Tryz.prog.globals[2]?).map (·.type) = some 362 := by kernel_rfl
theorem cHead : Tryz.prog.cellsOf 270 = 3 := by kernel_rfl
theorem cHeads : Tryz.prog.cellsOf 321 = 27 := by kernel_rfl
theorem cTen : Tryz.prog.cellsOf 195 = 1 := by kernel_rfl
theorem cTens : Tryz.prog.cellsOf 362 = 20 := by kernel_rfl
theorem cOp : Tryz.prog.cellsOf 66 = 4 := by kernel_rfl

def hdRow (x : ByteArray × Int × Int) : List Value := [.string x.1, .int .i64 x.2.1, .int .i64 x.2.2]
def hdData (x : ByteArray × Int × Int) : DataW Unit := .agg [.lit (.string x.1.data.toList), .lit (.int .i64 x.2.1), .lit (.int .i64 x.2.2)]
theorem heads_data : Rows.laid_arbiter_syntax_heads = DataW.agg (hdRows.map hdData) := by kernel_rfl
theorem heads_cells : (List.range 9).flatMap (fun i => hdRow (hdRows.getD i (ByteArray.empty, 0, 0))) = hdCells.toList := by kernel_rfl

theorem hd_cells {W : World} {fuel : Nat} {cs : List Value} {p : List MemPlace} {enc : TypeId × Value → Unit} {base : Nat} {spare : Nat → Bool} {held : Bool}
    (h : DataW.trod enc Tryz.prog W base spare held fuel 321 cs = some (Rows.laid_arbiter_syntax_heads, p)) : cs = hdCells.toList := by
  obtain ⟨xs, m, _, hx, hl, hn, hel⟩ := DataW.trod_array Tryz.underlying321 h
  rw [heads_data] at hx
  simp only [Prod.mk.injEq, DataW.agg.injEq] at hx
  rw [cHead] at hel
  rw [cHeads] at hl
  rw [← heads_cells]
  refine chunks3 _ 9 cs hl fun i hi => ?_
  have h1 := hel i hi
  have hxi : xs[i]? = some xs[i] := List.getElem?_eq_getElem (by omega)
  rw [hxi, Nat.mul_comm] at h1
  have hri : i < hdRows.length := hi
  have hd : (xs[i]).1 = hdData hdRows[i] := by
    have h2 : (hdRows.map hdData)[i]? = (xs.map (·.1))[i]? := by rw [hx.1]
    rw [List.getElem?_map, List.getElem?_map, hxi, List.getElem?_eq_getElem hri] at h2
    simpa using h2.symm
  have h3 := head_of Tryz.underlying270 (by kernel_rfl) cHead rfl rfl rfl Tryz.underlying9 Tryz.underlying110 Tryz.underlying268 h1 hd
  rw [h3, List.getD_eq_getElem?_getD, List.getElem?_eq_getElem hri]
  rfl

theorem var_block {W : World} {name : String} {g : Nat} {cs : Array Value} (hg : Tryz.prog.globalNamed name = some g) (h : W.var? Tryz.prog name = some cs) : ∃ t fr, W.heap[g]? = some (.cells cs t fr) := by
  simp only [World.var?, hg, Option.bind_some] at h
  split at h
  · rename_i cs' t fr hb
    exact ⟨t, fr, by rw [hb]; simp_all⟩
  · simp at h

theorem laid_of {W : World} (h : laidMet Tryz.prog Rows.readsRow.laid W) : HdLaid W ∧ TenLaid W := by
  obtain ⟨ps, ⟨g0, t0, cs0, f0, p0, q0, _, _, _, _, ⟨g1, t1, cs1, f1, p1, q1, _, _, _, _, ⟨g2, t2, cs2, f2, p2, q2, hg2, ht2, hv2, hd2, ⟨g3, t3, cs3, f3, p3, q3, hg3, ht3, hv3, hd3, _, _⟩, _⟩, _⟩, _⟩, _, _⟩ := h
  obtain rfl := Option.some.inj (gHeads.symm.trans hg3)
  obtain rfl := Option.some.inj (tHeads.symm.trans ht3)
  obtain rfl := Option.some.inj (gTen.symm.trans hg2)
  obtain rfl := Option.some.inj (tTen.symm.trans ht2)
  constructor
  · obtain ⟨t, fr, hb⟩ := var_block gHeads hv3
    have e := hd_cells hd3
    have e2 : cs3 = hdCells := Array.ext' e
    subst e2
    exact ⟨t, fr, hb⟩
  · show W.var? _ _ = _
    rw [hv2]
    have hd2' : DataW.trod _ Tryz.prog W _ _ _ f2 362 cs2.toList = some (Lib.tabData .u64 Lib.pow10Tab, p2) := hd2
    rw [← Lib.cells_of_tab Tryz.underlying362 Tryz.underlying195 cTen cTens hd2']

theorem op_at {W : World} {H : Type} {enc : TypeId × Value → H} {m i : Nat} {a : Addr} {cs : List Value} {y : DataW H × List MemPlace} {spare : Nat → Bool} {held : Bool}
    (hc : W.cells? 0 (a.add (i * 4)) 4 = some cs) (h : DataW.trod enc Tryz.prog W 0 spare held m 66 cs = some y) (ha : a.spot = none) :
    ∃ (k on : Int) (s : ByteArray) (c : Int), s.size ≤ maxLen ∧ -9223372036854775808 ≤ on ∧ on ≤ 9223372036854775807 ∧
    W.cell? ⟨a.block, a.off + i * 4, none⟩ = some (.int .i64 k) ∧ W.cell? ⟨a.block, a.off + i * 4 + 1, none⟩ = some (.int .i64 on) ∧ W.cell? ⟨a.block, a.off + i * 4 + 2, none⟩ = some (.string s) ∧ W.cell? ⟨a.block, a.off + i * 4 + 3, none⟩ = some (.int .i64 c) := by
  obtain ⟨k, on, s, c, rfl, hs, h1, h2⟩ := op_of Tryz.underlying66 (by kernel_rfl) cOp rfl rfl rfl rfl Tryz.underlying3 Tryz.underlying9 h
  obtain ⟨_, _, hcell⟩ := World.cells?_some hc
  obtain ⟨b, off, sp⟩ := a
  simp only at ha
  subst ha
  have e : (Addr.mk b off none).add (i * 4) = ⟨b, off + i * 4, none⟩ := by
    unfold Addr.add
    split
    · simp_all
    · rfl
  rw [e] at hcell
  exact ⟨k, on, s, c, hs, h1, h2, hcell 0 (by decide), hcell 1 (by decide), hcell 2 (by decide), hcell 3 (by decide)⟩

end Go.Proofs.YtegbdaffhpiacaaGreatDoor
