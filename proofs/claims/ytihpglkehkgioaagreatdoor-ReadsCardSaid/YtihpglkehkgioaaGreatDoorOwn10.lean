/- The program: the token at a place of a text; The program: the tokens of a text. -/
import Derived.Test.YtihpglkehkgioaaGreatDoorOwn02
import Derived.Test.YtihpglkehkgioaaGreatDoorOwn03
import Derived.Test.YtihpglkehkgioaaGreatDoorOwn09
/- The program: the token at a place of a text. -/
namespace Go.Proofs.YtihpglkehkgioaaGreatDoor
open Go.RowKit Ar

/-- The token at place k of s: a bracket, or a word as long as it goes. -/
structure AtTok (s : ByteArray) (k : Nat) (X : ByteArray) : Prop where
  pos : 0 < X.size
  le : k + X.size ≤ s.size
  toks : tkGo k [] (s.toList.drop k) = ⟨k, X⟩ :: tkGo (k + X.size) [] (s.toList.drop (k + X.size))

theorem at_br {s : ByteArray} {k : Nat} (h : k < s.size) (hb : isBr s[k] = true) : AtTok s k (s.extract k (k + 1)) := by
  have he := extract_one s k h
  have hsz : (s.extract k (k + 1)).size = 1 := by rw [← len_toList, he]; rfl
  have hx : s.extract k (k + 1) = ⟨#[s[k]]⟩ := bytes_ext (by rw [he]; exact (mk_toList [s[k]]).symm)
  refine ⟨by omega, by omega, ?_⟩
  rw [drop_cons_at s k h, go_br _ _ _ hb, hsz, hx]

theorem at_word {s : ByteArray} {k e : Nat} (hk : k < e) (he : e ≤ s.size) (hp : ((s.toList.drop k).take (e - k)).all plain = true) (hs : ∀ c r, s.toList.drop e = c :: r → plain c = false) : AtTok s k (s.extract k e) ∧ kOf (s.extract k e).toList = 3 := by
  have hx : (s.extract k e).toList = (s.toList.drop k).take (e - k) := by rw [Lib.extract_toList, ← ByteArray.toList_eq]
  have hl : (s.extract k e).size = e - k := by rw [← len_toList, hx, List.length_take, List.length_drop, len_toList]; omega
  have hne : (s.toList.drop k).take (e - k) ≠ [] := by
    intro h0
    have := len_toList (s.extract k e)
    rw [hx, h0, hl] at this
    simp at this; omega
  refine ⟨⟨by omega, by omega, ?_⟩, by rw [hx]; exact kOf_word hne hp⟩
  have hsplit : s.toList.drop k = (s.toList.drop k).take (e - k) ++ s.toList.drop e := by
    have h1 : s.toList.drop e = (s.toList.drop k).drop (e - k) := by rw [List.drop_drop]; congr 1; omega
    rw [h1, List.take_append_drop]
  have hX : s.extract k e = ⟨((s.toList.drop k).take (e - k)).toArray⟩ := bytes_ext (hx.trans (mk_toList _).symm)
  have hlen : ((s.toList.drop k).take (e - k)).length = e - k := by rw [← hx, len_toList, hl]
  rw [hl]
  have hke : k + (e - k) = e := by omega
  rw [hke]
  conv => lhs; rw [hsplit]
  rw [go_word k _ _ hne hp hs, hlen, hke, hX]

theorem plain_snoc {s : ByteArray} {k e : Nat} (hke : k ≤ e) (hlt : e < s.size) (ha : ((s.toList.drop k).take (e - k)).all plain = true) (hp : plain s[e] = true) : ((s.toList.drop k).take (e + 1 - k)).all plain = true := by
  have h1 : e + 1 - k = (e - k) + 1 := by omega
  have hl : e - k < (s.toList.drop k).length := by rw [List.length_drop, len_toList]; omega
  have h2 : (s.toList.drop k)[e - k] = s[e] := by
    have h3 : s.toList.drop e = (s.toList.drop k).drop (e - k) := by rw [List.drop_drop]; congr 1; omega
    rw [drop_cons_at s e hlt, List.drop_eq_getElem_cons hl] at h3
    injection h3 with h4 h5
    exact h4.symm
  rw [h1, List.take_succ_eq_append_getElem hl, List.all_append, ha, h2]
  simp [hp]

set_option maxHeartbeats 400000 in
theorem gAt (s : ByteArray) (k : Nat) (w : World) (hs : s.size ≤ 600) (hk : k < s.size) (hb : isBl s[k] = false) :
    Calls Tryz.prog 56 #[.string s, .int .i64 k] w fun e w' => ∃ X : ByteArray, e = .returned (.agg #[.int .i64 (kOf X.toList), .int .i64 k, .string X]) ∧ AtTok s k X ∧ Ext (fun _ => False) w w' := by
  by_cases h40 : ((s[k].toNat : Int) == 40) = true
  · have HT := hide (at_br hk (br_of (Or.inl h40)))
    have HK : Hid (kOf (s.extract k (k + 1)).toList = 1) := by
      show _ = _
      rw [extract_one s k hk, u8_of_int (c := s[k]) (n := 40) (by omega) (by simpa using h40)]; decide
    go_enter Tryz.func56, Tryz.ntmps56
    go_wp2_with fail
    exact bodyPost_ret (v := .agg #[.int .i64 1, .int .i64 k, .string (s.extract k (k + 1))]) (by simp [results, Tryz.results56, go_sem]) rfl ⟨_, by rw [HK.out], HT.out, (Ext.refl _ w).alloc _⟩
  have h40' : ((s[k].toNat : Int) == 40) = false := by simpa using h40
  by_cases h41 : ((s[k].toNat : Int) == 41) = true
  · have HT := hide (at_br hk (br_of (Or.inr h41)))
    have HK : Hid (kOf (s.extract k (k + 1)).toList = 2) := by
      show _ = _
      rw [extract_one s k hk, u8_of_int (c := s[k]) (n := 41) (by omega) (by simpa using h41)]; decide
    clear h40
    go_enter Tryz.func56, Tryz.ntmps56
    go_wp2_with fail
    exact bodyPost_ret (v := .agg #[.int .i64 2, .int .i64 k, .string (s.extract k (k + 1))]) (by simp [results, Tryz.results56, go_sem]) rfl ⟨_, by rw [HK.out], HT.out, (Ext.refl _ w).alloc _⟩
  have h41' : ((s[k].toNat : Int) == 41) = false := by simpa using h41
  have HPL : Hid (plain s[k] = true) := by show _ = _; rw [plain, hb, br_not h40' h41']; rfl
  have HB := hide hb
  clear h40 h41 hb
  go_enter Tryz.func56, Tryz.ntmps56
  go_wp2_with fail
  go_loop [5] (fun i => ∃ e : Nat, k ≤ e ∧ e ≤ s.size ∧ i = .int .i64 e ∧ ((s.toList.drop k).take (e - k)).all plain = true ∧ (e = k → True)) (fun i => s.size - (intOf i).toNat)
  case atStart => exact ⟨k, Nat.le_refl _, by omega, rfl, by simp, fun _ => trivial⟩
  case round =>
    obtain ⟨e, hke, hes, rfl, ha, _⟩ := hrel
    have HA := hide ha
    clear ha
    by_cases hlt : e < s.size
    · have HBL := hide (gIsBlank s[e])
      have HBR := hide (gIsBracket s[e])
      have hstop : plain s[e] = false → AtTok s k (s.extract k e) ∧ kOf (s.extract k e).toList = 3 := by
        intro hn
        have hne : k < e := by
          rcases Nat.lt_or_ge k e with h | h
          · exact h
          · have : e = k := by omega
            subst this
            rw [HPL.out] at hn; exact absurd hn (by decide)
        refine at_word hne hes HA.out ?_
        intro c r hc
        rw [drop_cons_at s e hlt] at hc
        injection hc with h1 h2
        rw [← h1]; exact hn
      have HSTOP := hide hstop
      clear hstop
      cases hbl : isBl s[e] with
      | true =>
        have HB1 : Hid (∀ w, Calls Tryz.prog 55 #[.int .u8 s[e].toNat] w fun e w' => e = .returned (.bool true) ∧ w = w') := by
          intro w; have := HBL.out w; rw [hbl] at this; exact this
        have HW := hide (HSTOP.out (by rw [plain, hbl]; rfl))
        clear hbl HBL HBR HSTOP HA
        go_wp2_with (go_at_call 55; refine (HB1.out _).mono ?_; rintro e w' ⟨rfl, rfl⟩)
        exact bodyPost_ret (v := .agg #[.int .i64 3, .int .i64 k, .string (s.extract k e)]) (by simp [results, Tryz.results56, go_sem]) rfl ⟨_, by rw [HW.out.2], HW.out.1, (Ext.refl _ w).alloc _⟩
      | false =>
        have HB1 : Hid (∀ w, Calls Tryz.prog 55 #[.int .u8 s[e].toNat] w fun e w' => e = .returned (.bool false) ∧ w = w') := by
          intro w; have := HBL.out w; rw [hbl] at this; exact this
        cases hbr : isBr s[e] with
        | true =>
          have HB2 : Hid (∀ w, Calls Tryz.prog 87 #[.int .u8 s[e].toNat] w fun e w' => e = .returned (.bool true) ∧ w = w') := by
            intro w; have := HBR.out w; rw [hbr] at this; exact this
          have HW := hide (HSTOP.out (by rw [plain, hbl, hbr]; rfl))
          clear hbl hbr HBL HBR HSTOP HA
          go_wp2_with first
            | (go_at_call 55; refine (HB1.out _).mono ?_; rintro e w' ⟨rfl, rfl⟩)
            | (go_at_call 87; refine (HB2.out _).mono ?_; rintro e w' ⟨rfl, rfl⟩)
          exact bodyPost_ret (v := .agg #[.int .i64 3, .int .i64 k, .string (s.extract k e)]) (by simp [results, Tryz.results56, go_sem]) rfl ⟨_, by rw [HW.out.2], HW.out.1, (Ext.refl _ w).alloc _⟩
        | false =>
          have HB2 : Hid (∀ w, Calls Tryz.prog 87 #[.int .u8 s[e].toNat] w fun e w' => e = .returned (.bool false) ∧ w = w') := by
            intro w; have := HBR.out w; rw [hbr] at this; exact this
          have HP : Hid (plain s[e] = true) := by show _ = _; rw [plain, hbl, hbr]; rfl
          clear hbl hbr HBL HBR HSTOP
          go_wp2_with first
            | (go_at_call 55; refine (HB1.out _).mono ?_; rintro e w' ⟨rfl, rfl⟩)
            | (go_at_call 87; refine (HB2.out _).mono ?_; rintro e w' ⟨rfl, rfl⟩)
          exact ⟨⟨e + 1, by omega, by omega, by go_num, plain_snoc hke hlt HA.out HP.out, fun _ => trivial⟩, by simp [intOf]; omega⟩
    · have HW := hide (at_word (s := s) (k := k) (e := e) (by omega) hes HA.out (by
        intro c r hc
        rw [List.drop_of_length_le (by rw [len_toList]; omega)] at hc
        exact absurd hc (by simp)))
      clear HA
      go_wp2_with fail
      exact bodyPost_ret (v := .agg #[.int .i64 3, .int .i64 k, .string (s.extract k e)]) (by simp [results, Tryz.results56, go_sem]) rfl ⟨_, by rw [HW.out.2], HW.out.1, (Ext.refl _ w).alloc _⟩

end Go.Proofs.YtihpglkehkgioaaGreatDoor

/- The program: the tokens of a text. -/
namespace Go.Proofs.YtihpglkehkgioaaGreatDoor
open Go.RowKit Ar

def ptkCells (ts : List Tk) : List Value := ts.flatMap (fun t => [.int .i64 (kOf t.txt.toList), .int .i64 t.pos, .string t.txt])

theorem ptkCells_snoc (ts : List Tk) (t : Tk) : ptkCells (ts ++ [t]) = ptkCells ts ++ [.int .i64 (kOf t.txt.toList), .int .i64 t.pos, .string t.txt] := by
  simp [ptkCells]

theorem info118 : (Tryz.prog.info? 142).map (fun i => (i.zero, i.size, i.bytes)) = some (some (.agg #[.int .i64 0, .int .i64 0, .string ByteArray.empty]), 3, 32) := by kernel_rfl

set_option maxHeartbeats 400000 in
theorem gSplit (s : ByteArray) (w : World) (hs : s.size ≤ 600) :
    Calls Tryz.prog 37 #[.string s] w fun e w' => ∃ v, e = .returned v ∧ Ext (fun _ => False) w w' ∧ w'.ownsRow w.heap.size 142 3 v (toks s.toList).length (ptkCells (toks s.toList)) := by
  obtain ⟨i0, hi, hz0, hz1, hz2⟩ := info_parts info118
  have HI : Hid (Tryz.prog.info? 142 = some i0 ∧ i0.zero = some (.agg #[.int .i64 0, .int .i64 0, .string ByteArray.empty]) ∧ i0.size = 3 ∧ i0.bytes = 32) := ⟨hi, hz0, hz1, hz2⟩
  clear hi hz0 hz1 hz2
  go_enter Tryz.func37, Tryz.ntmps37
  go_wp2_with fail
  go_loopw [3, 4] (fun out i wr => ∃ (k : Nat) (acc : List Tk), i = .int .i64 k ∧ k ≤ s.size ∧ acc.length ≤ k ∧ Ext (fun _ => False) w wr ∧ wr.ownsRow w.heap.size 142 3 out acc.length (ptkCells acc) ∧ toks s.toList = acc ++ tkGo k [] (s.toList.drop k))
    (fun _ i _ => s.size - (intOf i).toNat)
  case atStart => exact ⟨0, [], rfl, by omega, by simp, Ext.refl _ _, World.ownsRow_nil _ _ _ _, by simp [toks]⟩
  case round =>
    obtain ⟨k, acc, rfl, hk, hacc, hE, hown, hst⟩ := hrel
    have HE := hide hE
    have HOWN := hide hown
    have HST := hide hst
    clear hE hown hst
    obtain ⟨hi, hz0, hz1, hz2⟩ := HI.out
    by_cases hlt : k < s.size
    · have HBL := hide (gIsBlank s[k])
      cases hbl : isBl s[k] with
      | true =>
        have HB1 : Hid (∀ w, Calls Tryz.prog 55 #[.int .u8 s[k].toNat] w fun e w' => e = .returned (.bool true) ∧ w = w') := by
          intro w; have := HBL.out w; rw [hbl] at this; exact this
        have HC : Hid (toks s.toList = acc ++ tkGo (k + 1) [] (s.toList.drop (k + 1))) := by
          have := HST.out
          rw [drop_cons_at s k hlt, go_bl _ _ _ hbl] at this
          exact this
        clear hbl HBL HST
        go_wp2_with (go_at_call 55; refine (HB1.out _).mono ?_; rintro e w' ⟨rfl, rfl⟩)
        go_roundw
        case measure => simp [intOf]; omega
        case rel => exact ⟨k + 1, acc, by go_num, by omega, by omega, HE.out, HOWN.out, HC.out⟩
      | false =>
        have HB1 : Hid (∀ w, Calls Tryz.prog 55 #[.int .u8 s[k].toNat] w fun e w' => e = .returned (.bool false) ∧ w = w') := by
          intro w; have := HBL.out w; rw [hbl] at this; exact this
        have HAT := hide (gAt s k wr hs hlt hbl)
        clear hbl HBL
        go_wp2_with (go_at_call 55; refine (HB1.out _).mono ?_; rintro e w' ⟨rfl, rfl⟩)
        refine HAT.out.mono ?_
        rintro e w1 ⟨X, rfl, hat, hx1⟩
        have HO1 := hide (own_ext HOWN.out hx1 (fun _ _ f => f))
        have HE1 := hide (HE.out.trans hx1)
        have hXp := hat.pos
        have hXl := hat.le
        have HAT2 := hide hat
        clear hat hx1
        go_wp2_with (at_builtin; refine wpList_append_own_at _ rfl _ _ 100 rfl w.heap.size 142 i0 (.agg #[.int .i64 0, .int .i64 0, .string ByteArray.empty]) 3 32 Tryz.underlying100 hi hz0 hz1 hz2 rfl (by decide) _ _ _ rfl ((HO1.out.alloc _).alloc _) ⟨w1.heap.size + 1, 0, none⟩ 1 1 [.int .i64 (kOf X.toList), .int .i64 k, .string X] rfl rfl ?c1 ?c2 ?c3 ?c4 ?c5 ?_)
        case c1 =>
          intro q u hq2
          match q, hq2 with
          | 0, hq2 => simp at hq2; subst hq2; simp [Addr.add]
          | 1, hq2 => simp at hq2; subst hq2; simp [Addr.add]
          | 2, hq2 => simp at hq2; subst hq2; simp [Addr.add]
        case c2 => intro u hu; simp at hu; rcases hu with rfl | rfl | rfl <;> rfl
        case c3 => unfold maxLen; omega
        case c4 => omega
        case c5 => have := HE1.out.size; simp; omega
        intro v2 w2 hown' hgrow _ _
        have hne : ¬ some w1.heap.size = u3.ownBlock := fun e => by have := (HO1.out.lt _ e.symm).2; omega
        have kb : w2.heap[w1.heap.size]? = some (.cells #[.int .i64 (kOf X.toList), .int .i64 k, .string X] 142) :=
          (hgrow.block _ (by simp; omega) hne).trans ((Below.heap_alloc _ _ _ (by simp)).trans (heap_alloc_new w1 _))
        have k2 := cell_of_block kb 2
        have HE2 : Hid (Ext (fun _ => False) w w2) := ((HE1.out.alloc _).alloc _).grown hgrow (fun g hg _ => by have := (HO1.out.lt g hg).1; omega)
        have HO2 : Hid (w2.ownsRow w.heap.size 142 3 v2 (acc ++ [(⟨k, X⟩ : Tk)]).length (ptkCells (acc ++ [(⟨k, X⟩ : Tk)]))) := by
          rw [ptkCells_snoc, List.length_append]; exact hown'
        clear hown' hgrow kb hne
        go_wp2_with fail
        go_roundw
        case measure => simp [intOf]; omega
        case rel =>
          refine ⟨k + X.size, acc ++ [⟨k, X⟩], by go_num, by omega, by simp; omega, HE2.out, HO2.out, ?_⟩
          rw [HST.out, HAT2.out.toks]; simp
    · have hks : k = s.size := by omega
      subst hks
      have HC : Hid (toks s.toList = acc ++ [⟨s.size, ByteArray.empty⟩]) := by
        have := HST.out
        rw [List.drop_of_length_le (by rw [len_toList]; omega)] at this
        exact this
      clear HST
      go_wp2_with (at_builtin; refine wpList_append_own_at _ rfl _ _ 100 rfl w.heap.size 142 i0 (.agg #[.int .i64 0, .int .i64 0, .string ByteArray.empty]) 3 32 Tryz.underlying100 hi hz0 hz1 hz2 rfl (by decide) _ _ _ rfl (HOWN.out.alloc _) ⟨wr.heap.size, 0, none⟩ 1 1 [.int .i64 0, .int .i64 (s.size : Int), .string ByteArray.empty] rfl rfl ?c1 ?c2 ?c3 ?c4 ?c5 ?_)
      case c1 =>
        intro q u hq2
        match q, hq2 with
        | 0, hq2 => simp at hq2; subst hq2; simp [Addr.add]
        | 1, hq2 => simp at hq2; subst hq2; simp [Addr.add]
        | 2, hq2 => simp at hq2; subst hq2; simp [Addr.add] <;> rfl
      case c2 => intro u hu; simp at hu; rcases hu with rfl | rfl | rfl <;> rfl
      case c3 => unfold maxLen; omega
      case c4 => omega
      case c5 => have := HE.out.size; simp; omega
      intro v2 w2 hown' hgrow _ _
      go_wp2_with fail
      go_ret
      refine ⟨v2, rfl, (HE.out.alloc _).grown hgrow (fun g hg _ => by have := (HOWN.out.lt g hg).1; omega), ?_⟩
      rw [HC.out, ptkCells_snoc, List.length_append]
      have e0 : kOf (ByteArray.empty).toList = 0 := by rw [empty_toList]; rfl
      simp only [e0]
      exact hown'

end Go.Proofs.YtihpglkehkgioaaGreatDoor
