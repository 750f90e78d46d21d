/- The document's own answer: the tokens of a text; The program: the token at a place of a text. -/
import Derived.Test.YtihpglkehkgioaaGreatDoorOwn04
import Derived.Test.YtihpglkehkgioaaGreatDoorOwn08
import Derived.Test.YtihpglkehkgioaaGreatDoorOwn03
/- The document's own answer: the tokens of a text. -/
namespace Go.Proofs.YtihpglkehkgioaaGreatDoor
open Go.RowKit Ar

/-- A token's two cells in memory. -/
def tkCells (ts : List Tk) : List Value := ts.flatMap (fun t => [.int .i64 t.pos, .string t.txt])

theorem tkCells_snoc (ts : List Tk) (t : Tk) : tkCells (ts ++ [t]) = tkCells ts ++ [.int .i64 t.pos, .string t.txt] := by
  simp [tkCells]

theorem info166 : (Tryz.prog.info? 198).map (fun i => (i.zero, i.size, i.bytes)) = some (some (.agg #[.int .i64 0, .string ByteArray.empty]), 2, 24) := by kernel_rfl

theorem drop_cons_at (s : ByteArray) (k : Nat) (h : k < s.size) : s.toList.drop k = s[k] :: s.toList.drop (k + 1) := by
  rw [ByteArray.toList_eq, List.drop_eq_getElem_cons (by rw [← Lib.size_eq]; exact h)]; rfl

theorem extract_one (s : ByteArray) (k : Nat) (h : k < s.size) : (s.extract k (k + 1)).toList = [s[k]] := by
  rw [Lib.extract_toList, ← ByteArray.toList_eq, drop_cons_at s k h]
  have : k + 1 - k = 1 := by omega
  rw [this]; rfl

theorem br_of {c : UInt8} (h : ((c.toNat : Int) == 40) = true ∨ ((c.toNat : Int) == 41) = true) : isBr c = true := by
  unfold isBr
  rcases h with h | h
  · rw [u8_of_int (c := c) (n := 40) (by omega) (by simpa using h)]; rfl
  · rw [u8_of_int (c := c) (n := 41) (by omega) (by simpa using h)]; rfl

theorem br_not {c : UInt8} (h1 : ((c.toNat : Int) == 40) = false) (h2 : ((c.toNat : Int) == 41) = false) : isBr c = false := by
  unfold isBr
  rw [Bool.or_eq_false_iff]
  constructor
  · cases hq : (c == 40) with
    | false => rfl
    | true => rw [beq_iff_eq.1 hq] at h1; exact absurd h1 (by decide)
  · cases hq : (c == 41) with
    | false => rfl
    | true => rw [beq_iff_eq.1 hq] at h2; exact absurd h2 (by decide)

/-- The token that a word under way becomes, as the walk writes it. -/
theorem flush_cells {W : ByteArray} {k : Nat} (hW : W.size ≤ k) (hne : W.toList.isEmpty = false) : tkFlush k W.toList = [⟨k - W.size, W⟩] ∧ (((k - W.size : Nat) : Int) = (k : Int) - (W.size : Int)) := by
  refine ⟨?_, by omega⟩
  unfold tkFlush
  rw [if_neg (by intro e; rw [e] at hne; exact absurd hne (by decide)), len_toList]
  have : (ByteArray.mk W.toList.toArray) = W := bytes_ext (mk_toList _)
  rw [this]

theorem flush_none {W : ByteArray} {k : Nat} (hne : W.toList.isEmpty = true) : tkFlush k W.toList = [] := by
  unfold tkFlush
  rw [if_pos (by simpa using hne)]

set_option maxRecDepth 100000 in
set_option maxHeartbeats 1000000 in
theorem tokens_any (s : ByteArray) (w : World) (hs : s.size ≤ 600) :
    Calls Tryz.prog 69 #[.string s] w fun e w' => ∃ v, e = .returned v ∧ Ext (fun _ => False) w w' ∧ w'.ownsRow w.heap.size 198 2 v (toks s.toList).length (tkCells (toks s.toList)) := by
  obtain ⟨i0, hi, hz0, hz1, hz2⟩ := info_parts info166
  have HI : Hid (Tryz.prog.info? 198 = some i0 ∧ i0.zero = some (.agg #[.int .i64 0, .string ByteArray.empty]) ∧ i0.size = 2 ∧ i0.bytes = 24) := ⟨hi, hz0, hz1, hz2⟩
  clear hi hz0 hz1 hz2
  go_enter Tryz.func69, Tryz.ntmps69
  go_wp2_with fail
  go_loopw [3, 4, 5] (fun out wv i wr => ∃ (k : Nat) (acc : List Tk) (W : ByteArray), i = .int .i64 k ∧ wv = .string W ∧ k ≤ s.size + 1 ∧ W.size ≤ k ∧ acc.length ≤ 2 * k ∧ Ext (fun _ => False) w wr ∧ wr.ownsRow w.heap.size 198 2 out acc.length (tkCells acc) ∧
      ((k ≤ s.size ∧ toks s.toList = acc ++ tkGo k W.toList (s.toList.drop k)) ∨ (k = s.size + 1 ∧ toks s.toList = acc ++ [⟨s.size, ByteArray.empty⟩])))
    (fun _ _ i _ => s.size + 1 - (intOf i).toNat)
  case atStart => exact ⟨0, [], ByteArray.empty, rfl, rfl, by omega, by decide, by simp, Ext.refl _ _, World.ownsRow_nil _ _ _ _, Or.inl ⟨by omega, by simp [toks]⟩⟩
  case round =>
    obtain ⟨k, acc, W, rfl, rfl, hk, hWk, hacc, hE, hown, hst⟩ := hrel
    have HE := hide hE
    have HOWN := hide hown
    have HST := hide hst
    clear hE hown hst
    by_cases hlt : k < s.size
    · have hne : ((k : Int) == (s.size : Int)) = false := by simp; omega
      have hbl := blank_any s[k]
      have HBL := hide hbl
      have HC : Hid (toks s.toList = acc ++ tkGo k W.toList (s[k] :: s.toList.drop (k + 1))) := by
        rcases HST.out with ⟨_, h⟩ | ⟨h, _⟩
        · rw [drop_cons_at s k hlt] at h; exact h
        · omega
      clear hbl HST
      obtain ⟨hi, hz0, hz1, hz2⟩ := HI.out
      have HEX := hide (extract_one s k hlt)
      by_cases h40 : ((s[k].toNat : Int) == 40) = true
      · have hbr : isBr s[k] = true := br_of (Or.inl h40)
        have HBR := hide hbr
        clear hbr
        have hbx : s.extract k (k + 1) = ⟨#[s[k]]⟩ := bytes_ext (by rw [HEX.out]; exact (mk_toList [s[k]]).symm)
        have HBX := hide hbx
        clear hbx
        cases hem : W.toList.isEmpty with
        | true =>
          go_wp2_with (at_builtin; refine wpList_append_own_at _ rfl _ _ 160 rfl w.heap.size 198 i0 (.agg #[.int .i64 0, .string ByteArray.empty]) 2 24 Tryz.underlying160 hi hz0 hz1 hz2 rfl (by decide) _ _ _ rfl (HOWN.out.alloc _) ⟨wr.heap.size, 0, none⟩ 1 1 [(.int .i64 (k : Int)), (.string (s.extract k (k + 1)))] rfl rfl ?c1 ?c2 ?c3 ?c4 ?c5 ?_)
          case c1 =>
            intro q u hq2
            match q, hq2 with
            | 0, hq2 => simp at hq2; subst hq2; simp [Addr.add]
            | 1, hq2 => simp at hq2; subst hq2; simp [Addr.add] <;> rfl
          case c2 => intro u hu; simp at hu; rcases hu with rfl | rfl <;> rfl
          case c3 => unfold maxLen; first | omega | (simp; omega)
          case c4 => first | omega | (simp; omega)
          case c5 => have := HE.out.size; first | omega | (simp; omega)
          intro v2 w2 hown' hgrow _ _
          have HE2 : Hid (Ext (fun _ => False) w w2) := (HE.out.alloc _).grown hgrow (fun g hg _ => by have := (HOWN.out.lt g hg).1; omega)
          have HO2 : Hid (w2.ownsRow w.heap.size 198 2 v2 (acc ++ [(⟨k, s.extract k (k + 1)⟩ : Tk)]).length (tkCells (acc ++ [(⟨k, s.extract k (k + 1)⟩ : Tk)]))) := by
            rw [tkCells_snoc, List.length_append]; exact hown'
          clear hown' hgrow
          go_wp2_with fail
          go_roundw
          case measure => simp [intOf] <;> omega
          case rel =>
            refine ⟨k + 1, _, _, by go_num, rfl, by omega, (by first | omega | exact Nat.zero_le _), by first | omega | (simp; omega), HE2.out, HO2.out, Or.inl ⟨by omega, ?_⟩⟩
            rw [HC.out, tkGo, if_pos HBR.out, flush_none hem, HBX.out]
            have e0 : W.toList = [] := by simpa using hem
            simp [e0]
        | false =>
          go_wp2_with (at_builtin; refine wpList_append_own_at _ rfl _ _ 160 rfl w.heap.size 198 i0 (.agg #[.int .i64 0, .string ByteArray.empty]) 2 24 Tryz.underlying160 hi hz0 hz1 hz2 rfl (by decide) _ _ _ rfl (HOWN.out.alloc _) ⟨wr.heap.size, 0, none⟩ 1 1 [(.int .i64 ((k : Int) - (W.size : Int))), (.string W)] rfl rfl ?c1 ?c2 ?c3 ?c4 ?c5 ?_)
          case c1 =>
            intro q u hq2
            match q, hq2 with
            | 0, hq2 => simp at hq2; subst hq2; simp [Addr.add]
            | 1, hq2 => simp at hq2; subst hq2; simp [Addr.add] <;> rfl
          case c2 => intro u hu; simp at hu; rcases hu with rfl | rfl <;> rfl
          case c3 => unfold maxLen; first | omega | (simp; omega)
          case c4 => first | omega | (simp; omega)
          case c5 => have := HE.out.size; first | omega | (simp; omega)
          intro v1 w1 hown' hgrow _ _
          have HE1 : Hid (Ext (fun _ => False) w w1) := (HE.out.alloc _).grown hgrow (fun g hg _ => by have := (HOWN.out.lt g hg).1; omega)
          have HO1 : Hid (w1.ownsRow w.heap.size 198 2 v1 (acc ++ [(⟨k - W.size, W⟩ : Tk)]).length (tkCells (acc ++ [(⟨k - W.size, W⟩ : Tk)]))) := by
            rw [tkCells_snoc, (flush_cells (by omega) hem).2, List.length_append]; exact hown'
          clear hown' hgrow
          go_wp2_with (at_builtin; refine wpList_append_own_at _ rfl _ _ 160 rfl w.heap.size 198 i0 (.agg #[.int .i64 0, .string ByteArray.empty]) 2 24 Tryz.underlying160 hi hz0 hz1 hz2 rfl (by decide) _ _ _ rfl (HO1.out.alloc _) ⟨w1.heap.size, 0, none⟩ 1 1 [(.int .i64 (k : Int)), (.string (s.extract k (k + 1)))] rfl rfl ?c1 ?c2 ?c3 ?c4 ?c5 ?_)
          case c1 =>
            intro q u hq2
            match q, hq2 with
            | 0, hq2 => simp at hq2; subst hq2; simp [Addr.add]
            | 1, hq2 => simp at hq2; subst hq2; simp [Addr.add] <;> rfl
          case c2 => intro u hu; simp at hu; rcases hu with rfl | rfl <;> rfl
          case c3 => unfold maxLen; first | omega | (simp; omega)
          case c4 => first | omega | (simp; omega)
          case c5 => have := HE1.out.size; first | omega | (simp; omega)
          intro v2 w2 hown' hgrow _ _
          have HE2 : Hid (Ext (fun _ => False) w w2) := (HE1.out.alloc _).grown hgrow (fun g hg _ => by have := (HO1.out.lt g hg).1; omega)
          have HO2 : Hid (w2.ownsRow w.heap.size 198 2 v2 ((acc ++ [(⟨k - W.size, W⟩ : Tk)]) ++ [(⟨k, s.extract k (k + 1)⟩ : Tk)]).length (tkCells ((acc ++ [(⟨k - W.size, W⟩ : Tk)]) ++ [(⟨k, s.extract k (k + 1)⟩ : Tk)]))) := by
            rw [tkCells_snoc, List.length_append, List.length_append]; exact hown'
          clear hown' hgrow
          go_wp2_with fail
          go_roundw
          case measure => simp [intOf] <;> omega
          case rel =>
            refine ⟨k + 1, _, _, by go_num, rfl, by omega, (by first | omega | exact Nat.zero_le _), by first | omega | (simp; omega), HE2.out, HO2.out, Or.inl ⟨by omega, ?_⟩⟩
            rw [HC.out, tkGo, if_pos HBR.out, (flush_cells (by omega) hem).1, HBX.out]
            simp
      have h40' : ((s[k].toNat : Int) == 40) = false := by simpa using h40
      clear h40
      by_cases h41 : ((s[k].toNat : Int) == 41) = true
      · have hbr : isBr s[k] = true := br_of (Or.inr h41)
        have HBR := hide hbr
        clear hbr
        have hbx : s.extract k (k + 1) = ⟨#[s[k]]⟩ := bytes_ext (by rw [HEX.out]; exact (mk_toList [s[k]]).symm)
        have HBX := hide hbx
        clear hbx
        cases hem : W.toList.isEmpty with
        | true =>
          go_wp2_with (at_builtin; refine wpList_append_own_at _ rfl _ _ 160 rfl w.heap.size 198 i0 (.agg #[.int .i64 0, .string ByteArray.empty]) 2 24 Tryz.underlying160 hi hz0 hz1 hz2 rfl (by decide) _ _ _ rfl (HOWN.out.alloc _) ⟨wr.heap.size, 0, none⟩ 1 1 [(.int .i64 (k : Int)), (.string (s.extract k (k + 1)))] rfl rfl ?c1 ?c2 ?c3 ?c4 ?c5 ?_)
          case c1 =>
            intro q u hq2
            match q, hq2 with
            | 0, hq2 => simp at hq2; subst hq2; simp [Addr.add]
            | 1, hq2 => simp at hq2; subst hq2; simp [Addr.add] <;> rfl
          case c2 => intro u hu; simp at hu; rcases hu with rfl | rfl <;> rfl
          case c3 => unfold maxLen; first | omega | (simp; omega)
          case c4 => first | omega | (simp; omega)
          case c5 => have := HE.out.size; first | omega | (simp; omega)
          intro v2 w2 hown' hgrow _ _
          have HE2 : Hid (Ext (fun _ => False) w w2) := (HE.out.alloc _).grown hgrow (fun g hg _ => by have := (HOWN.out.lt g hg).1; omega)
          have HO2 : Hid (w2.ownsRow w.heap.size 198 2 v2 (acc ++ [(⟨k, s.extract k (k + 1)⟩ : Tk)]).length (tkCells (acc ++ [(⟨k, s.extract k (k + 1)⟩ : Tk)]))) := by
            rw [tkCells_snoc, List.length_append]; exact hown'
          clear hown' hgrow
          go_wp2_with fail
          go_roundw
          case measure => simp [intOf] <;> omega
          case rel =>
            refine ⟨k + 1, _, _, by go_num, rfl, by omega, (by first | omega | exact Nat.zero_le _), by first | omega | (simp; omega), HE2.out, HO2.out, Or.inl ⟨by omega, ?_⟩⟩
            rw [HC.out, tkGo, if_pos HBR.out, flush_none hem, HBX.out]
            have e0 : W.toList = [] := by simpa using hem
            simp [e0]
        | false =>
          go_wp2_with (at_builtin; refine wpList_append_own_at _ rfl _ _ 160 rfl w.heap.size 198 i0 (.agg #[.int .i64 0, .string ByteArray.empty]) 2 24 Tryz.underlying160 hi hz0 hz1 hz2 rfl (by decide) _ _ _ rfl (HOWN.out.alloc _) ⟨wr.heap.size, 0, none⟩ 1 1 [(.int .i64 ((k : Int) - (W.size : Int))), (.string W)] rfl rfl ?c1 ?c2 ?c3 ?c4 ?c5 ?_)
          case c1 =>
            intro q u hq2
            match q, hq2 with
            | 0, hq2 => simp at hq2; subst hq2; simp [Addr.add]
            | 1, hq2 => simp at hq2; subst hq2; simp [Addr.add] <;> rfl
          case c2 => intro u hu; simp at hu; rcases hu with rfl | rfl <;> rfl
          case c3 => unfold maxLen; first | omega | (simp; omega)
          case c4 => first | omega | (simp; omega)
          case c5 => have := HE.out.size; first | omega | (simp; omega)
          intro v1 w1 hown' hgrow _ _
          have HE1 : Hid (Ext (fun _ => False) w w1) := (HE.out.alloc _).grown hgrow (fun g hg _ => by have := (HOWN.out.lt g hg).1; omega)
          have HO1 : Hid (w1.ownsRow w.heap.size 198 2 v1 (acc ++ [(⟨k - W.size, W⟩ : Tk)]).length (tkCells (acc ++ [(⟨k - W.size, W⟩ : Tk)]))) := by
            rw [tkCells_snoc, (flush_cells (by omega) hem).2, List.length_append]; exact hown'
          clear hown' hgrow
          go_wp2_with (at_builtin; refine wpList_append_own_at _ rfl _ _ 160 rfl w.heap.size 198 i0 (.agg #[.int .i64 0, .string ByteArray.empty]) 2 24 Tryz.underlying160 hi hz0 hz1 hz2 rfl (by decide) _ _ _ rfl (HO1.out.alloc _) ⟨w1.heap.size, 0, none⟩ 1 1 [(.int .i64 (k : Int)), (.string (s.extract k (k + 1)))] rfl rfl ?c1 ?c2 ?c3 ?c4 ?c5 ?_)
          case c1 =>
            intro q u hq2
            match q, hq2 with
            | 0, hq2 => simp at hq2; subst hq2; simp [Addr.add]
            | 1, hq2 => simp at hq2; subst hq2; simp [Addr.add] <;> rfl
          case c2 => intro u hu; simp at hu; rcases hu with rfl | rfl <;> rfl
          case c3 => unfold maxLen; first | omega | (simp; omega)
          case c4 => first | omega | (simp; omega)
          case c5 => have := HE1.out.size; first | omega | (simp; omega)
          intro v2 w2 hown' hgrow _ _
          have HE2 : Hid (Ext (fun _ => False) w w2) := (HE1.out.alloc _).grown hgrow (fun g hg _ => by have := (HO1.out.lt g hg).1; omega)
          have HO2 : Hid (w2.ownsRow w.heap.size 198 2 v2 ((acc ++ [(⟨k - W.size, W⟩ : Tk)]) ++ [(⟨k, s.extract k (k + 1)⟩ : Tk)]).length (tkCells ((acc ++ [(⟨k - W.size, W⟩ : Tk)]) ++ [(⟨k, s.extract k (k + 1)⟩ : Tk)]))) := by
            rw [tkCells_snoc, List.length_append, List.length_append]; exact hown'
          clear hown' hgrow
          go_wp2_with fail
          go_roundw
          case measure => simp [intOf] <;> omega
          case rel =>
            refine ⟨k + 1, _, _, by go_num, rfl, by omega, (by first | omega | exact Nat.zero_le _), by first | omega | (simp; omega), HE2.out, HO2.out, Or.inl ⟨by omega, ?_⟩⟩
            rw [HC.out, tkGo, if_pos HBR.out, (flush_cells (by omega) hem).1, HBX.out]
            simp
      have h41' : ((s[k].toNat : Int) == 41) = false := by simpa using h41
      clear h41
      have HBR := hide (br_not h40' h41')
      cases hbl : isBl s[k] with
      | true =>
        have HBT : Hid (∀ w, Calls Tryz.prog 97 #[.int .u8 s[k].toNat] w fun e w' => e = .returned (.bool true) ∧ w = w') := by
          intro w; have := HBL.out w; rw [hbl] at this; exact this.mono (fun e w' h => ⟨h.1, h.2.symm⟩)
        have HB2 := hide hbl
        clear hbl HBL
        cases hem : W.toList.isEmpty with
        | true =>
          go_wp2_with (go_at_call 97; refine (HBT.out _).mono ?_; rintro e w' ⟨rfl, rfl⟩)
          go_roundw
          case measure => simp [intOf] <;> omega
          case rel =>
            refine ⟨k + 1, acc, W, by go_num, rfl, by omega, by omega, by omega, HE.out, HOWN.out, Or.inl ⟨by omega, ?_⟩⟩
            rw [HC.out, tkGo, if_neg (by rw [HBR.out]; decide), if_pos HB2.out, flush_none hem]
            have e0 : W.toList = [] := by simpa using hem
            simp [e0]
        | false =>
          go_wp2_with first | (go_at_call 97; refine (HBT.out _).mono ?_; rintro e w' ⟨rfl, rfl⟩) | (at_builtin; refine wpList_append_own_at _ rfl _ _ 160 rfl w.heap.size 198 i0 (.agg #[.int .i64 0, .string ByteArray.empty]) 2 24 Tryz.underlying160 hi hz0 hz1 hz2 rfl (by decide) _ _ _ rfl (HOWN.out.alloc _) ⟨wr.heap.size, 0, none⟩ 1 1 [(.int .i64 ((k : Int) - (W.size : Int))), (.string W)] rfl rfl ?c1 ?c2 ?c3 ?c4 ?c5 ?_)
          case c1 =>
            intro q u hq2
            match q, hq2 with
            | 0, hq2 => simp at hq2; subst hq2; simp [Addr.add]
            | 1, hq2 => simp at hq2; subst hq2; simp [Addr.add] <;> rfl
          case c2 => intro u hu; simp at hu; rcases hu with rfl | rfl <;> rfl
          case c3 => unfold maxLen; first | omega | (simp; omega)
          case c4 => first | omega | (simp; omega)
          case c5 => have := HE.out.size; first | omega | (simp; omega)
          intro v1 w1 hown' hgrow _ _
          have HE1 : Hid (Ext (fun _ => False) w w1) := (HE.out.alloc _).grown hgrow (fun g hg _ => by have := (HOWN.out.lt g hg).1; omega)
          have HO1 : Hid (w1.ownsRow w.heap.size 198 2 v1 (acc ++ [(⟨k - W.size, W⟩ : Tk)]).length (tkCells (acc ++ [(⟨k - W.size, W⟩ : Tk)]))) := by
            rw [tkCells_snoc, (flush_cells (by omega) hem).2, List.length_append]; exact hown'
          clear hown' hgrow
          go_wp2_with fail
          go_roundw
          case measure => simp [intOf] <;> omega
          case rel =>
            refine ⟨k + 1, _, _, by go_num, rfl, by omega, (by first | omega | exact Nat.zero_le _), by first | omega | (simp; omega), HE1.out, HO1.out, Or.inl ⟨by omega, ?_⟩⟩
            rw [HC.out, tkGo, if_neg (by rw [HBR.out]; decide), if_pos HB2.out, (flush_cells (by omega) hem).1]
            simp
      | false =>
        have HBT : Hid (∀ w, Calls Tryz.prog 97 #[.int .u8 s[k].toNat] w fun e w' => e = .returned (.bool false) ∧ w = w') := by
          intro w; have := HBL.out w; rw [hbl] at this; exact this.mono (fun e w' h => ⟨h.1, h.2.symm⟩)
        have HB2 := hide hbl
        clear hbl HBL
        go_wp2_with (go_at_call 97; refine (HBT.out _).mono ?_; rintro e w' ⟨rfl, rfl⟩)
        go_roundw
        case measure => simp [intOf] <;> omega
        case rel =>
          refine ⟨k + 1, acc, _, by go_num, rfl, by omega, ?_, by omega, HE.out, HOWN.out, Or.inl ⟨by omega, ?_⟩⟩
          · rw [← len_toList, toList_app, HEX.out, List.length_append, len_toList]; simp; omega
          · rw [HC.out, tkGo, if_neg (by rw [HBR.out]; decide), if_neg (by rw [HB2.out]; decide), toList_app, HEX.out]
    · by_cases heq : k = s.size
      · subst heq
        obtain ⟨hi, hz0, hz1, hz2⟩ := HI.out
        have HC : Hid (toks s.toList = acc ++ (tkFlush s.size W.toList ++ [⟨s.size, ByteArray.empty⟩])) := by
          rcases HST.out with ⟨_, h⟩ | ⟨h, _⟩
          · rw [List.drop_of_length_le (by rw [len_toList]; omega)] at h; exact h
          · omega
        clear HST
        cases hem : W.toList.isEmpty with
        | true =>
          go_wp2_with fail
          go_roundw
          case measure => simp [intOf] <;> omega
          case rel =>
            refine ⟨s.size + 1, acc, W, by go_num, rfl, by omega, by omega, by omega, HE.out, HOWN.out, Or.inr ⟨rfl, ?_⟩⟩
            rw [HC.out, flush_none hem]; simp
        | false =>
          go_wp2_with (at_builtin; refine wpList_append_own_at _ rfl _ _ 160 rfl w.heap.size 198 i0 (.agg #[.int .i64 0, .string ByteArray.empty]) 2 24 Tryz.underlying160 hi hz0 hz1 hz2 rfl (by decide) _ _ _ rfl (HOWN.out.alloc _) ⟨wr.heap.size, 0, none⟩ 1 1 [(.int .i64 ((s.size : Int) - (W.size : Int))), (.string W)] rfl rfl ?c1 ?c2 ?c3 ?c4 ?c5 ?_)
          case c1 =>
            intro q u hq2
            match q, hq2 with
            | 0, hq2 => simp at hq2; subst hq2; simp [Addr.add]
            | 1, hq2 => simp at hq2; subst hq2; simp [Addr.add] <;> rfl
          case c2 => intro u hu; simp at hu; rcases hu with rfl | rfl <;> rfl
          case c3 => unfold maxLen; first | omega | (simp; omega)
          case c4 => first | omega | (simp; omega)
          case c5 => have := HE.out.size; first | omega | (simp; omega)
          intro v1 w1 hown' hgrow _ _
          have HE1 : Hid (Ext (fun _ => False) w w1) := (HE.out.alloc _).grown hgrow (fun g hg _ => by have := (HOWN.out.lt g hg).1; omega)
          have HO1 : Hid (w1.ownsRow w.heap.size 198 2 v1 (acc ++ [(⟨s.size - W.size, W⟩ : Tk)]).length (tkCells (acc ++ [(⟨s.size - W.size, W⟩ : Tk)]))) := by
            rw [tkCells_snoc, (flush_cells (by omega) hem).2, List.length_append]; exact hown'
          clear hown' hgrow
          go_wp2_with fail
          go_roundw
          case measure => simp [intOf] <;> omega
          case rel =>
            refine ⟨s.size + 1, _, _, by go_num, rfl, by omega, (by first | omega | exact Nat.zero_le _), by first | omega | (simp; omega), HE1.out, HO1.out, Or.inr ⟨rfl, ?_⟩⟩
            rw [HC.out, (flush_cells (by omega) hem).1]; simp
      · have hks : k = s.size + 1 := by omega
        subst hks
        have HC : Hid (toks s.toList = acc ++ [⟨s.size, ByteArray.empty⟩]) := by
          rcases HST.out with ⟨h, _⟩ | ⟨_, h⟩
          · omega
          · exact h
        clear HST
        obtain ⟨hi, hz0, hz1, hz2⟩ := HI.out
        go_wp2_with (at_builtin; refine wpList_append_own_at _ rfl _ _ 160 rfl w.heap.size 198 i0 (.agg #[.int .i64 0, .string ByteArray.empty]) 2 24 Tryz.underlying160 hi hz0 hz1 hz2 rfl (by decide) _ _ _ rfl (HOWN.out.alloc _) ⟨wr.heap.size, 0, none⟩ 1 1 [(.int .i64 (s.size : Int)), (.string ByteArray.empty)] rfl rfl ?c1 ?c2 ?c3 ?c4 ?c5 ?_)
        case c1 =>
          intro q u hq2
          match q, hq2 with
          | 0, hq2 => simp at hq2; subst hq2; simp [Addr.add]
          | 1, hq2 => simp at hq2; subst hq2; simp [Addr.add] <;> rfl
        case c2 => intro u hu; simp at hu; rcases hu with rfl | rfl <;> rfl
        case c3 => unfold maxLen; first | omega | (simp; omega)
        case c4 => first | omega | (simp; omega)
        case c5 => have := HE.out.size; first | omega | (simp; omega)
        intro v1 w1 hown' hgrow _ _
        go_wp2_with fail
        go_ret
        refine ⟨v1, rfl, (HE.out.alloc _).grown hgrow (fun g hg _ => by have := (HOWN.out.lt g hg).1; omega), ?_⟩
        rw [HC.out, tkCells_snoc, List.length_append]
        exact hown'

end Go.Proofs.YtihpglkehkgioaaGreatDoor

/- The program: the token at a place of a text. -/
namespace Go.Proofs.YtihpglkehkgioaaGreatDoor
open Go.RowKit Ar

/-- The token at place k of s: a bracket, or a word as long as it goes. -/
structure AtTok (s : ByteArray) (k : Nat) (X : ByteArray) : Prop where
  pos : 0 < X.size
  le : k + X.size ≤ s.size
  toks : tkGo k [] (s.toList.drop k) = ⟨k, X⟩ :: tkGo (k + X.size) [] (s.toList.drop (k + X.size))

theorem at_br {s : ByteArray} {k : Nat} (h : k < s.size) (hb : isBr s[k] = true) : AtTok s k (s.extract k (k + 1)) := by
  have he := extract_one s k h
  have hsz : (s.extract k (k + 1)).size = 1 := by rw [← len_toList, he]; rfl
  have hx : s.extract k (k + 1) = ⟨#[s[k]]⟩ := bytes_ext (by rw [he]; exact (mk_toList [s[k]]).symm)
  refine ⟨by omega, by omega, ?_⟩
  rw [drop_cons_at s k h, go_br _ _ _ hb, hsz, hx]

theorem at_word {s : ByteArray} {k e : Nat} (hk : k < e) (he : e ≤ s.size) (hp : ((s.toList.drop k).take (e - k)).all plain = true) (hs : ∀ c r, s.toList.drop e = c :: r → plain c = false) : AtTok s k (s.extract k e) ∧ kOf (s.extract k e).toList = 3 := by
  have hx : (s.extract k e).toList = (s.toList.drop k).take (e - k) := by rw [Lib.extract_toList, ← ByteArray.toList_eq]
  have hl : (s.extract k e).size = e - k := by rw [← len_toList, hx, List.length_take, List.length_drop, len_toList]; omega
  have hne : (s.toList.drop k).take (e - k) ≠ [] := by
    intro h0
    have := len_toList (s.extract k e)
    rw [hx, h0, hl] at this
    simp at this; omega
  refine ⟨⟨by omega, by omega, ?_⟩, by rw [hx]; exact kOf_word hne hp⟩
  have hsplit : s.toList.drop k = (s.toList.drop k).take (e - k) ++ s.toList.drop e := by
    have h1 : s.toList.drop e = (s.toList.drop k).drop (e - k) := by rw [List.drop_drop]; congr 1; omega
    rw [h1, List.take_append_drop]
  have hX : s.extract k e = ⟨((s.toList.drop k).take (e - k)).toArray⟩ := bytes_ext (hx.trans (mk_toList _).symm)
  have hlen : ((s.toList.drop k).take (e - k)).length = e - k := by rw [← hx, len_toList, hl]
  rw [hl]
  have hke : k + (e - k) = e := by omega
  rw [hke]
  conv => lhs; rw [hsplit]
  rw [go_word k _ _ hne hp hs, hlen, hke, hX]

theorem plain_snoc {s : ByteArray} {k e : Nat} (hke : k ≤ e) (hlt : e < s.size) (ha : ((s.toList.drop k).take (e - k)).all plain = true) (hp : plain s[e] = true) : ((s.toList.drop k).take (e + 1 - k)).all plain = true := by
  have h1 : e + 1 - k = (e - k) + 1 := by omega
  have hl : e - k < (s.toList.drop k).length := by rw [List.length_drop, len_toList]; omega
  have h2 : (s.toList.drop k)[e - k] = s[e] := by
    have h3 : s.toList.drop e = (s.toList.drop k).drop (e - k) := by rw [List.drop_drop]; congr 1; omega
    rw [drop_cons_at s e hlt, List.drop_eq_getElem_cons hl] at h3
    injection h3 with h4 h5
    exact h4.symm
  rw [h1, List.take_succ_eq_append_getElem hl, List.all_append, ha, h2]
  simp [hp]

set_option maxHeartbeats 400000 in
theorem gAt (s : ByteArray) (k : Nat) (w : World) (hs : s.size ≤ 600) (hk : k < s.size) (hb : isBl s[k] = false) :
    Calls Tryz.prog 56 #[.string s, .int .i64 k] w fun e w' => ∃ X : ByteArray, e = .returned (.agg #[.int .i64 (kOf X.toList), .int .i64 k, .string X]) ∧ AtTok s k X ∧ Ext (fun _ => False) w w' := by
  by_cases h40 : ((s[k].toNat : Int) == 40) = true
  · have HT := hide (at_br hk (br_of (Or.inl h40)))
    have HK : Hid (kOf (s.extract k (k + 1)).toList = 1) := by
      show _ = _
      rw [extract_one s k hk, u8_of_int (c := s[k]) (n := 40) (by omega) (by simpa using h40)]; decide
    go_enter Tryz.func56, Tryz.ntmps56
    go_wp2_with fail
    exact bodyPost_ret (v := .agg #[.int .i64 1, .int .i64 k, .string (s.extract k (k + 1))]) (by simp [results, Tryz.results56, go_sem]) rfl ⟨_, by rw [HK.out], HT.out, (Ext.refl _ w).alloc _⟩
  have h40' : ((s[k].toNat : Int) == 40) = false := by simpa using h40
  by_cases h41 : ((s[k].toNat : Int) == 41) = true
  · have HT := hide (at_br hk (br_of (Or.inr h41)))
    have HK : Hid (kOf (s.extract k (k + 1)).toList = 2) := by
      show _ = _
      rw [extract_one s k hk, u8_of_int (c := s[k]) (n := 41) (by omega) (by simpa using h41)]; decide
    clear h40
    go_enter Tryz.func56, Tryz.ntmps56
    go_wp2_with fail
    exact bodyPost_ret (v := .agg #[.int .i64 2, .int .i64 k, .string (s.extract k (k + 1))]) (by simp [results, Tryz.results56, go_sem]) rfl ⟨_, by rw [HK.out], HT.out, (Ext.refl _ w).alloc _⟩
  have h41' : ((s[k].toNat : Int) == 41) = false := by simpa using h41
  have HPL : Hid (plain s[k] = true) := by show _ = _; rw [plain, hb, br_not h40' h41']; rfl
  have HB := hide hb
  clear h40 h41 hb
  go_enter Tryz.func56, Tryz.ntmps56
  go_wp2_with fail
  go_loop [5] (fun i => ∃ e : Nat, k ≤ e ∧ e ≤ s.size ∧ i = .int .i64 e ∧ ((s.toList.drop k).take (e - k)).all plain = true ∧ (e = k → True)) (fun i => s.size - (intOf i).toNat)
  case atStart => exact ⟨k, Nat.le_refl _, by omega, rfl, by simp, fun _ => trivial⟩
  case round =>
    obtain ⟨e, hke, hes, rfl, ha, _⟩ := hrel
    have HA := hide ha
    clear ha
    by_cases hlt : e < s.size
    · have HBL := hide (gIsBlank s[e])
      have HBR := hide (gIsBracket s[e])
      have hstop : plain s[e] = false → AtTok s k (s.extract k e) ∧ kOf (s.extract k e).toList = 3 := by
        intro hn
        have hne : k < e := by
          rcases Nat.lt_or_ge k e with h | h
          · exact h
          · have : e = k := by omega
            subst this
            rw [HPL.out] at hn; exact absurd hn (by decide)
        refine at_word hne hes HA.out ?_
        intro c r hc
        rw [drop_cons_at s e hlt] at hc
        injection hc with h1 h2
        rw [← h1]; exact hn
      have HSTOP := hide hstop
      clear hstop
      cases hbl : isBl s[e] with
      | true =>
        have HB1 : Hid (∀ w, Calls Tryz.prog 55 #[.int .u8 s[e].toNat] w fun e w' => e = .returned (.bool true) ∧ w = w') := by
          intro w; have := HBL.out w; rw [hbl] at this; exact this
        have HW := hide (HSTOP.out (by rw [plain, hbl]; rfl))
        clear hbl HBL HBR HSTOP HA
        go_wp2_with (go_at_call 55; refine (HB1.out _).mono ?_; rintro e w' ⟨rfl, rfl⟩)
        exact bodyPost_ret (v := .agg #[.int .i64 3, .int .i64 k, .string (s.extract k e)]) (by simp [results, Tryz.results56, go_sem]) rfl ⟨_, by rw [HW.out.2], HW.out.1, (Ext.refl _ w).alloc _⟩
      | false =>
        have HB1 : Hid (∀ w, Calls Tryz.prog 55 #[.int .u8 s[e].toNat] w fun e w' => e = .returned (.bool false) ∧ w = w') := by
          intro w; have := HBL.out w; rw [hbl] at this; exact this
        cases hbr : isBr s[e] with
        | true =>
          have HB2 : Hid (∀ w, Calls Tryz.prog 87 #[.int .u8 s[e].toNat] w fun e w' => e = .returned (.bool true) ∧ w = w') := by
            intro w; have := HBR.out w; rw [hbr] at this; exact this
          have HW := hide (HSTOP.out (by rw [plain, hbl, hbr]; rfl))
          clear hbl hbr HBL HBR HSTOP HA
          go_wp2_with first
            | (go_at_call 55; refine (HB1.out _).mono ?_; rintro e w' ⟨rfl, rfl⟩)
            | (go_at_call 87; refine (HB2.out _).mono ?_; rintro e w' ⟨rfl, rfl⟩)
          exact bodyPost_ret (v := .agg #[.int .i64 3, .int .i64 k, .string (s.extract k e)]) (by simp [results, Tryz.results56, go_sem]) rfl ⟨_, by rw [HW.out.2], HW.out.1, (Ext.refl _ w).alloc _⟩
        | false =>
          have HB2 : Hid (∀ w, Calls Tryz.prog 87 #[.int .u8 s[e].toNat] w fun e w' => e = .returned (.bool false) ∧ w = w') := by
            intro w; have := HBR.out w; rw [hbr] at this; exact this
          have HP : Hid (plain s[e] = true) := by show _ = _; rw [plain, hbl, hbr]; rfl
          clear hbl hbr HBL HBR HSTOP
          go_wp2_with first
            | (go_at_call 55; refine (HB1.out _).mono ?_; rintro e w' ⟨rfl, rfl⟩)
            | (go_at_call 87; refine (HB2.out _).mono ?_; rintro e w' ⟨rfl, rfl⟩)
          exact ⟨⟨e + 1, by omega, by omega, by go_num, plain_snoc hke hlt HA.out HP.out, fun _ => trivial⟩, by simp [intOf]; omega⟩
    · have HW := hide (at_word (s := s) (k := k) (e := e) (by omega) hes HA.out (by
        intro c r hc
        rw [List.drop_of_length_le (by rw [len_toList]; omega)] at hc
        exact absurd hc (by simp)))
      clear HA
      go_wp2_with fail
      exact bodyPost_ret (v := .agg #[.int .i64 3, .int .i64 k, .string (s.extract k e)]) (by simp [results, Tryz.results56, go_sem]) rfl ⟨_, by rw [HW.out.2], HW.out.1, (Ext.refl _ w).alloc _⟩

end Go.Proofs.YtihpglkehkgioaaGreatDoor
