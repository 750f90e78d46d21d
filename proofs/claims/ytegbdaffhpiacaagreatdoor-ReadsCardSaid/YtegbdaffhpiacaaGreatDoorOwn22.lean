/- Of a tree of the program: has it brackets, and its token; A tree of the program is written: its one form; The one form of a tree of the program. -/
import Derived.Test.YtegbdaffhpiacaaGreatDoorOwn19
import Derived.Test.YtegbdaffhpiacaaGreatDoorOwn20
import Derived.Test.YtegbdaffhpiacaaGreatDoorOwn21
import Derived.Sort.Grow
/- Of a tree of the program: has it brackets, and its token. -/
namespace Go.Proofs.YtegbdaffhpiacaaGreatDoor
open Go.RowKit Ar

/-- The table of powers of ten lies where the program's start has laid it. -/
def TenLaid (w : World) : Prop := Lib.TabIs Tryz.prog w "internal/strconv.uint64pow10" .u64 Lib.pow10Tab

def tenB : Nat := 2

theorem tenG : Tryz.prog.globalNamed "internal/strconv.uint64pow10" = some 2 := by kernel_rfl

theorem Ext.grow {S : Nat → Prop} {a w : World} (h : Ext S a w) (os : Array Obj) : Ext S a (Sort.grow w os) := by
  refine ⟨h.os, h.tape, h.output, Nat.le_trans h.size (by simp [Sort.grow]), fun k hk hs => ?_⟩
  rw [← h.block k hk hs]
  exact Array.getElem?_append_left (Nat.lt_of_lt_of_le hk h.size)

theorem TenLaid.lt {w : World} (h : TenLaid w) : tenB < w.heap.size := by
  unfold TenLaid Lib.TabIs World.var? at h
  rw [tenG, Option.bind_some] at h
  rcases Nat.lt_or_ge tenB w.heap.size with h1 | h1
  · exact h1
  · have h2 : w.heap[2]? = none := Array.getElem?_eq_none h1
    rw [h2] at h
    exact absurd h (by simp)

theorem TenLaid.ext {w w' : World} {S : Nat → Prop} (h : TenLaid w) (hx : Ext S w w') (hS : ¬ S tenB) : TenLaid w' := by
  have hb : w'.heap[2]? = w.heap[2]? := hx.block tenB h.lt hS
  unfold TenLaid Lib.TabIs World.var? at *
  rw [tenG, Option.bind_some] at *
  rw [hb]
  exact h

set_option maxHeartbeats 400000 in
theorem has_any {w : World} (k v : Int) (wd : ByteArray) (sa : Option Addr) (sn sc : Nat) :
    Calls Tryz.prog 154 #[.agg #[.int .i64 k, .string wd, .int .i64 v, .slice sa sn sc]] w fun e w' => e = .returned (.bool (decide (k = 1 ∨ k = 2 ∨ 0 < sn))) ∧ Ext (fun _ => False) w w' := by
  have hx : Ext (fun _ => False) w (w.alloc (.cells #[.int .i64 k, .string wd, .int .i64 v, .slice sa sn sc] 115)) := (Ext.refl _ w).alloc _
  have HX := hide hx
  clear hx
  cases h1 : (k == 1) with
  | true =>
    have e1 : k = 1 := by simpa using h1
    have E1 := hide e1
    clear e1
    go_enter Tryz.func154, Tryz.ntmps154
    go_wp2_with fail
    go_ret
    exact ⟨by simp [E1.out], HX.out⟩
  | false =>
    have e1 : ¬ k = 1 := by simpa using h1
    cases h2 : (k == 2) with
    | true =>
      have e2 : k = 2 := by simpa using h2
      have E1 := hide e1
      have E2 := hide e2
      clear e1 e2
      go_enter Tryz.func154, Tryz.ntmps154
      go_wp2_with fail
      go_ret
      exact ⟨by simp [E2.out], HX.out⟩
    | false =>
      have e2 : ¬ k = 2 := by simpa using h2
      have E1 := hide e1
      have E2 := hide e2
      clear e1 e2
      go_enter Tryz.func154, Tryz.ntmps154
      go_wp2_with fail
      go_ret
      exact ⟨by simp [E1.out, E2.out], HX.out⟩

set_option maxHeartbeats 400000 in
theorem tok_num {w : World} (k v : Int) (wd : ByteArray) (sa : Option Addr) (sn sc : Nat) (hk : k = 4 ∨ k = 5) (h0 : -1000 ≤ v) (h1 : v ≤ 1000) (ht : TenLaid w) :
    Calls Tryz.prog 156 #[.agg #[.int .i64 k, .string wd, .int .i64 v, .slice sa sn sc]] w fun e w' => e = .returned (.string ⟨(Lib.itoa v).toArray⟩) ∧ Ext (fun _ => False) w w' := by
  have hx : Ext (fun _ => False) w (w.alloc (.cells #[.int .i64 k, .string wd, .int .i64 v, .slice sa sn sc] 115)) := (Ext.refl _ w).alloc _
  have HX := hide hx
  have HT := hide (ht.ext hx (fun f => f))
  clear hx ht
  rcases hk with rfl | rfl
  · go_enter Tryz.func156, Tryz.ntmps156
    go_wp2_with fail
    refine (Tryz.strconv_Itoa v (by omega) (by omega) _ HT.out).mono ?_
    rintro e w2 ⟨rfl, n, os, rfl⟩
    go_wp2_with fail
    go_ret
    exact ⟨rfl, (HX.out.drewN n).grow os⟩
  · go_enter Tryz.func156, Tryz.ntmps156
    go_wp2_with fail
    refine (Tryz.strconv_Itoa v (by omega) (by omega) _ HT.out).mono ?_
    rintro e w2 ⟨rfl, n, os, rfl⟩
    go_wp2_with fail
    go_ret
    exact ⟨rfl, (HX.out.drewN n).grow os⟩

set_option maxHeartbeats 400000 in
theorem tok_word {w : World} (k v : Int) (wd : ByteArray) (sa : Option Addr) (sn sc : Nat) (h4 : (k == 4) = false) (h5 : (k == 5) = false) :
    Calls Tryz.prog 156 #[.agg #[.int .i64 k, .string wd, .int .i64 v, .slice sa sn sc]] w fun e w' => e = .returned (.string wd) ∧ Ext (fun _ => False) w w' := by
  have hx : Ext (fun _ => False) w (w.alloc (.cells #[.int .i64 k, .string wd, .int .i64 v, .slice sa sn sc] 115)) := (Ext.refl _ w).alloc _
  have HX := hide hx
  clear hx
  go_enter Tryz.func156, Tryz.ntmps156
  go_wp2_with fail
  go_ret
  exact ⟨rfl, HX.out⟩

theorem tok_any {w : World} (k v : Int) (wd : ByteArray) (sa : Option Addr) (sn sc : Nat) (hv : k = 4 ∨ k = 5 → -1000 ≤ v ∧ v ≤ 1000) (ht : TenLaid w) :
    Calls Tryz.prog 156 #[.agg #[.int .i64 k, .string wd, .int .i64 v, .slice sa sn sc]] w fun e w' => e = .returned (.string ⟨(tokOf k wd v).toArray⟩) ∧ Ext (fun _ => False) w w' := by
  by_cases hk : k = 4 ∨ k = 5
  · have := hv hk
    rw [tokOf, if_pos hk, ← itoa_lib this.1 this.2]
    exact tok_num k v wd sa sn sc hk this.1 this.2 ht
  · rw [tokOf, if_neg hk, show (⟨wd.toList.toArray⟩ : ByteArray) = wd from by rw [ByteArray.toList_eq]]
    exact tok_word k v wd sa sn sc (by simp; omega) (by simp; omega)

end Go.Proofs.YtegbdaffhpiacaaGreatDoor

/- A tree of the program is written: its one form. -/
namespace Go.Proofs.YtegbdaffhpiacaaGreatDoor
open Go.RowKit Ar

theorem BX.keep {B b : Nat} {w w' : World} (h : BX B b w w') {k : Nat} {cs : Array Value} {ty : TypeId} {fr : Nat × Nat} (hk : w.heap[k]? = some (.cells cs ty fr)) (hb : ¬ k = b) (ht : ¬ ty = 5) : w'.heap[k]? = some (.cells cs ty fr) := by
  refine (h.block k (block_lt hk) ?_).trans hk
  rintro (e | ⟨_, cs', fr', hc⟩)
  · exact hb e
  · rw [hk] at hc
    simp at hc
    exact ht hc.2.1

/-- What writing needs of the world: the builder, the tables. -/
structure WR (B b : Nat) (l : List UInt8) (w : World) : Prop where
  isb : IsB B b l w
  bw : B ≤ w.heap.size
  ten : TenLaid w
  tb : tenB < B

theorem IsB.lo {B b : Nat} {l : List UInt8} {w : World} (h : IsB B b l w) : B ≤ b := h.elim (fun x => x.1) (fun x => x.1)

theorem IsB.lt {B b : Nat} {l : List UInt8} {w : World} (h : IsB B b l w) : b < w.heap.size := h.elim (fun x => Lib.BuilderAt.lt x) (fun x => Lib.BuilderAt.lt x)

theorem IsB.new {B b : Nat} {l : List UInt8} {w w' : World} (h : IsB B b l w) (hx : Ext (fun _ => False) w w') : IsB B b l w' := by
  rcases h with ⟨hB, v, hb, hown, hne⟩ | ⟨hB, v, hb, hown, hne⟩
  · exact .inl ⟨hB, v, (hx.block _ (block_lt hb) (fun f => f)).trans hb, own_ext hown hx (fun _ _ f => f), hne⟩
  · exact .inr ⟨hB, v, (hx.block _ (block_lt hb) (fun f => f)).trans hb, own_ext hown hx (fun _ _ f => f), hne⟩

theorem WR.new {B b : Nat} {l : List UInt8} {w w' : World} (h : WR B b l w) (hx : Ext (fun _ => False) w w') : WR B b l w' :=
  ⟨h.isb.new hx, Nat.le_trans h.bw hx.size, h.ten.ext hx (fun f => f), h.tb⟩

theorem WR.step {B b : Nat} {l l' : List UInt8} {w w' : World} (h : WR B b l w) (hx : BX B b w w') (hi : IsB B b l' w') : WR B b l' w' :=
  ⟨hi, Nat.le_trans h.bw hx.size, h.ten.ext hx (by have h1 := h.isb.lo; have h2 := h.tb; rintro (e | ⟨hB, _⟩) <;> omega), h.tb⟩

theorem PN.bx {B b : Nat} {w w' : World} {cs : List Value} {nd : Nd} (h : PN w (· < B) cs nd) (hx : BX B b w w') (hB : B ≤ b) : PN w' (· < B) cs nd :=
  h.ext hx (fun k _ hk => by have h1 : k < B := hk; rintro (e | ⟨hB', _⟩) <;> omega)

set_option maxRecDepth 100000 in
set_option maxHeartbeats 400000 in
theorem w_leaf {B b : Nat} {l : List UInt8} {w : World} (k v : Int) (wd : ByteArray) (sa : Option Addr) (sc : Nat) (h : WR B b l w) (h1 : ¬ k = 1) (h2 : ¬ k = 2) (hv : k = 4 ∨ k = 5 → -1000 ≤ v ∧ v ≤ 1000) (hl : l.length + (tokOf k wd v).length ≤ 1000000) :
    Calls Tryz.prog 116 #[.agg #[.int .i64 k, .string wd, .int .i64 v, .slice sa 0 sc], .pointer (some ⟨b, 0, none⟩)] w fun e w' => e = .returned (.tuple #[]) ∧ IsB B b (l ++ tokOf k wd v) w' ∧ BX B b w w' := by
  have HX0 : Hid (Ext (fun _ => False) w (w.alloc (.cells #[.int .i64 k, .string wd, .int .i64 v, .slice sa 0 sc] 115))) := (Ext.refl _ w).alloc _
  have H := hide h
  have HH := hide (has_any (w := w.alloc (.cells #[.int .i64 k, .string wd, .int .i64 v, .slice sa 0 sc] 115)) k v wd sa 0 sc)
  have hf : decide (k = 1 ∨ k = 2 ∨ 0 < 0) = false := by simp [h1, h2]
  have HV := hide hv
  have HL := hide hl
  clear h h1 h2 hv hl
  go_enter Tryz.func116, Tryz.ntmps116
  go_wp2_with fail
  have HH' := HH.out
  rw [hf] at HH'
  refine HH'.mono ?_
  clear HH' HH
  rintro e w1 ⟨rfl, hx1⟩
  have kb1 : w1.heap[w.heap.size]? = some (.cells #[.int .i64 k, .string wd, .int .i64 v, .slice sa 0 sc] 115) := (hx1.block _ (block_lt (heap_alloc_new w _)) (fun f => f)).trans (heap_alloc_new w _)
  have z0 := cell_of_block kb1 0
  have z1 := cell_of_block kb1 1
  have z2 := cell_of_block kb1 2
  have z3 := cell_of_block kb1 3
  have HX1 : Hid (Ext (fun _ => False) w w1) := HX0.out.trans hx1
  clear hx1 kb1
  go_wp2_with fail
  refine (tok_any k v wd sa 0 sc HV.out (H.out.new HX1.out).ten).mono ?_
  rintro e w2 ⟨rfl, hx2⟩
  have HX2 : Hid (Ext (fun _ => False) w w2) := HX1.out.trans hx2
  clear hx2
  go_wp2_with fail
  refine (b_string _ (H.out.new HX2.out).isb (by rw [← len_toList, mk_toList]; have := HL.out; omega) (H.out.new HX2.out).bw).mono ?_
  rintro e w3 ⟨rfl, hi3, hx3⟩
  have HI3 := hide hi3
  have HX3 := hide hx3
  clear hi3 hx3
  go_wp2_with fail
  refine bodyPost_ret (results_none rfl _ _ _) rfl ?_
  have hi3 := HI3.out
  rw [mk_toList] at hi3
  exact ⟨rfl, hi3, (((BX.refl B b w).new HX2.out)).trans HX3.out⟩

theorem kid_cells {kids : List (List Value)} (hl : ∀ cs ∈ kids, cs.length = 4) : ∀ {j : Nat} {cs : List Value} {q : Nat} {u : Value}, kids[j]? = some cs → cs[q]? = some u → kids.flatten[j * 4 + q]? = some u := by
  induction kids with
  | nil => intro j cs q u h; exact absurd h (by simp)
  | cons c kids ih =>
    intro j cs q u h hu
    have hc := hl c (List.mem_cons_self ..)
    cases j with
    | zero =>
      simp at h
      subst h
      have hq := (List.getElem?_eq_some_iff.1 hu).1
      rw [List.flatten_cons, List.getElem?_append_left (by omega)]
      simpa using hu
    | succ j =>
      rw [List.flatten_cons, List.getElem?_append_right (by omega), hc, show (j + 1) * 4 + q - 4 = j * 4 + q from by omega]
      exact ih (fun x hx => hl x (List.mem_cons_of_mem _ hx)) (by simpa using h) hu

theorem forms_take {ps : List Nd} {j : Nat} {p : Nd} (h : ps[j]? = some p) : formsOf (ps.take (j + 1)) = formsOf (ps.take j) ++ 32 :: formOf p := by
  rw [List.take_add_one, h, Option.toList_some, formsOf_snoc]

theorem forms_le (ps : List Nd) (j : Nat) : (formsOf (ps.take j)).length ≤ (formsOf ps).length := by
  induction ps generalizing j with
  | nil => simp [formsOf]
  | cons p ps ih =>
    cases j with
    | zero => simp [formsOf]
    | succ j => have := ih j; simp [formsOf] at this ⊢; omega

theorem forms_len (ps : List Nd) : ps.length ≤ (formsOf ps).length := by
  induction ps with
  | nil => simp
  | cons p ps ih => simp [formsOf]; omega

def WPost (B b : Nat) (l : List UInt8) (w : World) (e : Ending) (w' : World) : Prop := e = .returned (.tuple #[]) ∧ IsB B b l w' ∧ BX B b w w'

set_option maxRecDepth 100000 in
set_option maxHeartbeats 800000 in
theorem w_node {B b : Nat} {l : List UInt8} {w : World} (k v : Int) (wd : ByteArray) (sa : Option Addr) (sc : Nat) (ps : List Nd) (kids : List (List Value)) (h : WR B b l w) (hb : k = 1 ∨ k = 2 ∨ 0 < ps.length) (hv : k = 4 ∨ k = 5 → -1000 ≤ v ∧ v ≤ 1000)
    (hl : l.length + (tokOf k wd v).length + (formsOf ps).length + 2 ≤ 1000000)
    (how : w.ownsRow 0 115 4 (.slice sa ps.length sc) ps.length kids.flatten) (hl4 : ∀ cs ∈ kids, cs.length = 4) (hn : kids.length = ps.length) (hD : ∀ g, (Value.slice sa ps.length sc).ownBlock = some g → g < B)
    (hk : ∀ (i : Nat) (cs : List Value) (p : Nd), kids[i]? = some cs → ps[i]? = some p → PN w (· < B) cs p)
    (ih : ∀ p ∈ ps, ∀ (w : World) (l : List UInt8) (k v : Int) (wd : ByteArray) (sa : Option Addr) (sn sc : Nat), WR B b l w → PN w (· < B) [.int .i64 k, .string wd, .int .i64 v, .slice sa sn sc] p → l.length + (formOf p).length ≤ 1000000 → Calls Tryz.prog 116 #[.agg #[.int .i64 k, .string wd, .int .i64 v, .slice sa sn sc], .pointer (some ⟨b, 0, none⟩)] w (WPost B b (l ++ formOf p) w)) :
    Calls Tryz.prog 116 #[.agg #[.int .i64 k, .string wd, .int .i64 v, .slice sa ps.length sc], .pointer (some ⟨b, 0, none⟩)] w (WPost B b (l ++ 40 :: (tokOf k wd v ++ formsOf ps ++ [41])) w) := by
  have hlo := h.isb.lo
  have hbl := h.isb.lt
  have hsmall : ps.length ≤ 1000000 := by have := forms_len ps; omega
  have HX0 : Hid (Ext (fun _ => False) w (w.alloc (.cells #[.int .i64 k, .string wd, .int .i64 v, .slice sa ps.length sc] 115))) := (Ext.refl _ w).alloc _
  have H := hide h
  have HH := hide (has_any (w := w.alloc (.cells #[.int .i64 k, .string wd, .int .i64 v, .slice sa ps.length sc] 115)) k v wd sa ps.length sc)
  have hf : decide (k = 1 ∨ k = 2 ∨ 0 < ps.length) = true := decide_eq_true hb
  have HV := hide hv
  have HL := hide hl
  have HOW := hide how
  have HL4 := hide hl4
  have HNK := hide hn
  have HDD := hide hD
  have HK := hide hk
  have IH := hide ih
  clear h hb hv hl how hl4 hn hD hk ih
  go_enter Tryz.func116, Tryz.ntmps116
  go_wp2_with fail
  have HH' := HH.out
  rw [hf] at HH'
  refine HH'.mono ?_
  clear HH' HH hf
  rintro e w1 ⟨rfl, hx1⟩
  have kb1 : w1.heap[w.heap.size]? = some (.cells #[.int .i64 k, .string wd, .int .i64 v, .slice sa ps.length sc] 115) := (hx1.block _ (block_lt (heap_alloc_new w _)) (fun f => f)).trans (heap_alloc_new w _)
  have HX1 : Hid (Ext (fun _ => False) w w1) := HX0.out.trans hx1
  have hnb : ¬ w.heap.size = b := by omega
  clear hx1
  go_wp2_with fail
  have hb1 := b_byte 40 (H.out.new HX1.out).isb (by have := HL.out; omega) (H.out.new HX1.out).bw
  refine hb1.mono ?_
  clear hb1
  rintro e w2 ⟨rfl, hi2, hx2⟩
  have HW2 := hide ((H.out.new HX1.out).step hx2 hi2)
  have HB2 : Hid (BX B b w w2) := ((BX.refl B b w).new HX1.out).trans hx2
  have kb2 := hx2.keep kb1 hnb (by decide)
  have z0 := cell_of_block kb2 0
  have z1 := cell_of_block kb2 1
  have z2 := cell_of_block kb2 2
  have z3 := cell_of_block kb2 3
  have KB2 := hide kb2
  clear hi2 hx2 kb1 kb2
  go_wp2_with fail
  refine (tok_any k v wd sa ps.length sc HV.out HW2.out.ten).mono ?_
  rintro e w3 ⟨rfl, hx3⟩
  have HW3 := hide (HW2.out.new hx3)
  have HB3 : Hid (BX B b w w3) := HB2.out.new hx3
  have KB3 := hide ((hx3.block _ (block_lt KB2.out) (fun f => f)).trans KB2.out)
  clear hx3 z0 z1 z2 z3
  go_wp2_with fail
  refine (b_string _ HW3.out.isb (by rw [← len_toList, mk_toList]; have := HL.out; simp; omega) HW3.out.bw).mono ?_
  rintro e w4 ⟨rfl, hi4, hx4⟩
  rw [mk_toList] at hi4
  have HW4 := hide (HW3.out.step hx4 hi4)
  have HB4 : Hid (BX B b w w4) := HB3.out.trans hx4
  have kb4 := hx4.keep KB3.out hnb (by decide)
  have z3 := cell_of_block kb4 3
  clear hi4 hx4 kb4
  go_wp2_with fail
  go_loopw [22] (fun i wr => ∃ j : Nat, j ≤ ps.length ∧ i = .int .i64 j ∧ WR B b (l ++ [40] ++ tokOf k wd v ++ formsOf (ps.take j)) wr ∧ BX B b w wr) (fun i _ => ps.length - (intOf i).toNat)
  case atStart => exact ⟨0, Nat.zero_le _, rfl, by have h9 := HW4.out; simpa [formsOf] using h9, HB4.out⟩
  case round =>
    obtain ⟨j, hj, rfl, hwr, hbr⟩ := hrel
    have HWR := hide hwr
    have HBR := hide hbr
    have hlr := hwr.isb.lt
    clear hwr hbr
    by_cases hlt : j < ps.length
    · obtain ⟨p, hp⟩ : ∃ p, ps[j]? = some p := ⟨_, List.getElem?_eq_getElem hlt⟩
      obtain ⟨cs, hcs⟩ : ∃ cs, kids[j]? = some cs := ⟨_, List.getElem?_eq_getElem (by rw [HNK.out]; exact hlt)⟩
      have hpn := HK.out j cs p hcs hp
      obtain ⟨k', v', wd', ps', pv', kids', rfl, rfl, how'⟩ : ∃ k' v' wd' ps' pv' kids', cs = [.int .i64 k', .string wd', .int .i64 v', pv'] ∧ p = .mk k' wd' v' ps' ∧ w.ownsRow 0 115 4 pv' ps'.length (List.flatten kids') := by
        cases hpn with
        | mk h1 h2 h3 h4 h5 => exact ⟨_, _, _, _, _, _, rfl, rfl, h1⟩
      obtain ⟨sa', sn', sc', rfl⟩ : ∃ sa' sn' sc', pv' = .slice sa' sn' sc' := by
        rcases how'.2 with ⟨e, _⟩ | ⟨g, cap, cur, hv, _⟩
        · exact ⟨_, _, _, e⟩
        · exact ⟨_, _, _, hv⟩
      obtain ⟨g, hsa, hgl⟩ : ∃ g, sa = some ⟨g, 0, none⟩ ∧ g < w.heap.size := by
        rcases HOW.out.2 with ⟨_, e⟩ | ⟨g, cap, cur, hv, _, hg, _⟩
        · omega
        · simp at hv; exact ⟨g, hv.1, block_lt hg⟩
      subst hsa
      have hgB : g < B := HDD.out g rfl
      have hcell : ∀ q u, ([.int .i64 k', .string wd', .int .i64 v', .slice sa' sn' sc'] : List Value)[q]? = some u → wr.cell? ⟨g, j * 4 + q, none⟩ = some u := by
        intro q u hu
        rw [HBR.out.cell (p := ⟨g, j * 4 + q, none⟩) hgl (by rintro (e | ⟨hB, _⟩) <;> (simp at *; omega))]
        have hq := (List.getElem?_eq_some_iff.1 hu).1
        simp at hq
        rw [HOW.out.cellAt (j * 4 + q) (by omega)]
        exact kid_cells HL4.out hcs hu
      have e0 : wr.cell? ⟨g, j * 4, none⟩ = some (.int .i64 k') := hcell 0 _ rfl
      have e1 : wr.cell? ⟨g, j * 4 + 1, none⟩ = some (.string wd') := hcell 1 _ rfl
      have e2 : wr.cell? ⟨g, j * 4 + 2, none⟩ = some (.int .i64 v') := hcell 2 _ rfl
      have e3 : wr.cell? ⟨g, j * 4 + 3, none⟩ = some (.slice sa' sn' sc') := hcell 3 _ rfl
      have hgn : ¬ g = wr.heap.size := by have := HBR.out.size; omega
      have hbn : ¬ wr.heap.size = b := by omega
      have HP := hide hp
      have HPN := hide hpn
      have HXA : Hid (Ext (fun _ => False) wr (wr.alloc (.cells #[.int .i64 k', .string wd', .int .i64 v', .slice sa' sn' sc'] 115))) := (Ext.refl _ wr).alloc _
      clear hp hcs hpn how' hcell
      go_wp2_with fail
      have hfl := forms_take HP.out
      have hfle := forms_le ps (j + 1)
      have HFL := hide hfl
      have HLEN : Hid ((l ++ [40] ++ tokOf k wd v ++ formsOf (ps.take j)).length + 1 + (formOf (.mk k' wd' v' ps')).length ≤ 1000000) := by
        show _ ≤ _
        have := HL.out
        rw [hfl] at hfle
        simp at hfle ⊢
        omega
      clear hfl hfle
      have hb5 := b_byte 32 (HWR.out.new HXA.out).isb (by have := HLEN.out; omega) (HWR.out.new HXA.out).bw
      refine hb5.mono ?_
      clear hb5
      rintro e w5 ⟨rfl, hi5, hx5⟩
      have kb5 := hx5.keep (heap_alloc_new wr (.cells #[.int .i64 k', .string wd', .int .i64 v', .slice sa' sn' sc'] 115)) hbn (by decide)
      have z0 := cell_of_block kb5 0
      have z1 := cell_of_block kb5 1
      have z2 := cell_of_block kb5 2
      have z3' := cell_of_block kb5 3
      have HW5 := hide ((HWR.out.new HXA.out).step hx5 hi5)
      have HB5 : Hid (BX B b w w5) := (HBR.out.new HXA.out).trans hx5
      clear hi5 hx5 kb5 e0 e1 e2 e3
      go_wp2_with fail
      refine (IH.out _ (List.mem_of_getElem? HP.out) w5 _ k' v' wd' sa' sn' sc' HW5.out (HPN.out.bx HB5.out hlo) (by have := HLEN.out; simp at this ⊢; omega)).mono ?_
      rintro e w6 ⟨rfl, hi6, hx6⟩
      have HW6 := hide (HW5.out.step hx6 hi6)
      have HB6 : Hid (BX B b w w6) := HB5.out.trans hx6
      clear hi6 hx6 z0 z1 z2 z3'
      go_wp2_with fail
      go_roundw
      case measure => simp [intOf]; omega
      case rel =>
        refine ⟨j + 1, by omega, by go_num, ?_, HB6.out⟩
        rw [HFL.out]
        have h9 := HW6.out
        simpa using h9
    · have hje : ps.take j = ps := List.take_of_length_le (by omega)
      have HJE := hide hje
      clear hje
      go_wp2_with fail
      have hb7 := b_byte 41 HWR.out.isb (by rw [HJE.out]; have := HL.out; simp; omega) HWR.out.bw
      refine hb7.mono ?_
      clear hb7
      rintro e w7 ⟨rfl, hi7, hx7⟩
      have HI7 := hide hi7
      have HX7 := hide hx7
      clear hi7 hx7
      go_wp2_with fail
      refine bodyPost_ret (results_none rfl _ _ _) rfl ?_
      refine ⟨rfl, ?_, HBR.out.trans HX7.out⟩
      have h9 := HI7.out
      rw [HJE.out] at h9
      simpa using h9

theorem nd_size {k v : Int} {wd : ByteArray} {ps : List Nd} {p : Nd} (h : p ∈ ps) : SizeOf.sizeOf p < SizeOf.sizeOf (Nd.mk k wd v ps) := by
  have := List.sizeOf_lt_of_mem h
  simp
  omega

theorem w_any (B b : Nat) (n : Nat) : ∀ (nd : Nd), SizeOf.sizeOf nd ≤ n → NOk nd → ∀ (w : World) (l : List UInt8) (k v : Int) (wd : ByteArray) (sa : Option Addr) (sn sc : Nat), WR B b l w → PN w (· < B) [.int .i64 k, .string wd, .int .i64 v, .slice sa sn sc] nd → l.length + (formOf nd).length ≤ 1000000 → Calls Tryz.prog 116 #[.agg #[.int .i64 k, .string wd, .int .i64 v, .slice sa sn sc], .pointer (some ⟨b, 0, none⟩)] w (WPost B b (l ++ formOf nd) w) := by
  induction n with
  | zero => intro nd hn; cases nd; simp at hn
  | succ n ih =>
    intro nd hn hok w l k v wd sa sn sc hw hpn hl
    cases hpn with
    | @mk _ _ _ ps _ kids how hl4 hnk hD hk =>
      cases hok with
      | mk hv hps =>
        have hsn : sn = ps.length := by
          rcases how.2 with ⟨e, e0⟩ | ⟨g, cap, cur, e, _⟩
          · simp at e; omega
          · simp at e; omega
        subst hsn
        by_cases hb : k = 1 ∨ k = 2 ∨ ps ≠ []
        · rw [formOf, if_pos hb] at hl ⊢
          refine w_node k v wd sa sc ps kids hw ?_ hv (by simp at hl; omega) how hl4 hnk hD hk (fun p hp w' l' k' v' wd' sa' sn' sc' h1 h2 h3 => ?_)
          · rcases hb with h | h | h
            · exact .inl h
            · exact .inr (.inl h)
            · exact .inr (.inr (List.length_pos_iff.2 h))
          · exact ih p (by have := nd_size (k := k) (v := v) (wd := wd) hp; omega) (hps p hp) w' l' k' v' wd' sa' sn' sc' h1 h2 h3
        · rw [formOf, if_neg hb] at hl ⊢
          have h0 : ps = [] := Classical.byContradiction (fun e => hb (.inr (.inr e)))
          subst h0
          exact w_leaf k v wd sa sc hw (fun e => hb (.inl e)) (fun e => hb (.inr (.inl e))) hv hl

end Go.Proofs.YtegbdaffhpiacaaGreatDoor

/- The one form of a tree of the program. -/
namespace Go.Proofs.YtegbdaffhpiacaaGreatDoor
open Go.RowKit Ar

theorem Ext.below {a w w' : World} (h : Ext (fun _ => False) a w) (hb : Below a.heap.size w w') : Ext (fun _ => False) a w' := by
  refine ⟨hb.os.trans h.os, hb.tape.trans h.tape, hb.output.trans h.output, Nat.le_trans h.size hb.size, fun k hk _ => ?_⟩
  exact (hb.block k hk).trans (h.block k hk (fun f => f))

set_option maxRecDepth 100000 in
set_option maxHeartbeats 400000 in
theorem one_any {w : World} (k v : Int) (wd : ByteArray) (sa : Option Addr) (sn sc : Nat) (nd : Nd) (hok : NOk nd) (hpn : PN w (fun _ => True) [.int .i64 k, .string wd, .int .i64 v, .slice sa sn sc] nd) (ht : TenLaid w) (hl : (formOf nd).length ≤ 1000000) :
    Calls Tryz.prog 78 #[.agg #[.int .i64 k, .string wd, .int .i64 v, .slice sa sn sc]] w fun e w' => e = .returned (.string ⟨(formOf nd).toArray⟩) ∧ Ext (fun _ => False) w w' := by
  have HOK := hide hok
  have HPN := hide (hpn.mono (D' := fun k => k < w.heap.size) (fun k hk _ => hk))
  have HT := hide ht
  have HL := hide hl
  clear hok hpn ht hl
  go_enter Tryz.func78, Tryz.ntmps78
  go_wp2_with fail
  obtain ⟨W, hW⟩ : ∃ W, (w.alloc (.cells #[.int .i64 k, .string wd, .int .i64 v, .slice sa sn sc] 115)).alloc (.cells #[.pointer none, .slice none 0 0] 228) = W := ⟨_, rfl⟩
  have hxW : Ext (fun _ => False) w W := by rw [← hW]; exact ((Ext.refl _ w).alloc _).alloc _
  have kbW : W.heap[w.heap.size + 1]? = some (.cells #[.pointer none, .slice none 0 0] 228) := by rw [← hW]; exact heap_alloc2_new w _ _
  rw [hW]
  clear hW
  have hWR : WR w.heap.size (w.heap.size + 1) [] W := ⟨.inl ⟨by omega, .slice none 0 0, kbW, World.ownsRow_nil _ _ _ _, by simp [Value.ownBlock]⟩, hxW.size, HT.out.ext hxW (fun f => f), HT.out.lt⟩
  refine (w_any w.heap.size (w.heap.size + 1) (SizeOf.sizeOf nd) nd (Nat.le_refl _) HOK.out W [] k v wd sa sn sc hWR (HPN.out.ext hxW (fun _ _ _ f => f)) (by have := HL.out; simpa using this)).mono ?_
  rintro e w2 ⟨rfl, hi2, hx2⟩
  have HX2 : Hid (Ext (fun _ => False) w w2) := hxW.trans' hx2 (fun i hi e => by
    rcases e with e | ⟨hB, _⟩ <;> omega)
  have HI2 := hide hi2
  have HW2 := hide (hWR.step hx2 hi2)
  clear hi2 hx2 hWR kbW hxW
  go_wp2_with fail
  refine (Tryz.Builder_String_any w.heap.size (w.heap.size + 1) (formOf nd) w2 HI2.out HX2.out.size).mono ?_
  rintro e w3 ⟨rfl, hb3⟩
  have HX3 : Hid (Ext (fun _ => False) w w3) := HX2.out.below hb3
  clear hb3
  go_wp2_with fail
  go_ret
  exact ⟨rfl, HX3.out⟩

end Go.Proofs.YtegbdaffhpiacaaGreatDoor
