/- The program's reader: a row of parts, each read in its own way; The reader of the document's own answer: a term in brackets; The reader of the document's own answer: a term, whatever comes; The reader of the document's own answer: formulas without brackets, brackets too deep, brackets whose first word cannot stand there; An atom under way: what lies in memory behind its two terms; The reader of the document's own answer: atoms. -/
import Derived.Test.YtegbdaffhpiacaaGreatDoorOwn08
import Derived.Test.YtegbdaffhpiacaaGreatDoorOwn03
import Derived.Test.YtegbdaffhpiacaaGreatDoorOwn07
/- The program's reader: a row of parts, each read in its own way. -/
namespace Go.Proofs.YtegbdaffhpiacaaGreatDoor
open Go.RowKit Ar

/-- Parts that were read: the row that holds them. -/
structure PRow (w : World) (D : Nat → Prop) (pv : Value) (ps : List Nd) (kids : List (List Value)) : Prop where
  how : w.ownsRow 0 115 4 pv ps.length kids.flatten
  hl : ∀ cs ∈ kids, cs.length = 4
  hn : kids.length = ps.length
  hD : ∀ g, pv.ownBlock = some g → D g
  hk : ∀ (i : Nat) (cs : List Value) (p : Nd), kids[i]? = some cs → ps[i]? = some p → PN w (fun q => D q ∧ pv.ownBlock ≠ some q) cs p

def RowPost (w : World) (c : PCtx) (d pl er : Int) (r : Rs (List Nd)) (en : Ending) (w' : World) : Prop :=
  Ext (· = c.rb) w w' ∧ (match r with
    | .ok ps ts' => ∃ (sa : Option Addr) (sn sc : Nat) (kids : List (List Value)), en = .returned (.tuple #[.slice sa sn sc, .bool true]) ∧ PRow w' (w.heap.size ≤ ·) (.slice sa sn sc) ps kids ∧ PR w' c ts' d pl er
    | .no e p => en = .returned (.tuple #[.slice none 0 0, .bool false]) ∧ ∃ ts' d', PR w' c ts' d' p e)

theorem info60 : (Tryz.prog.info? 115).map (fun i => (i.zero, i.size, i.bytes)) = some (some (.agg #[.int .i64 0, .string ByteArray.empty, .int .i64 0, .slice none 0 0]), 4, 56) := by kernel_rfl

/-- A part more is laid behind the others. -/
theorem prow_step {w wr w1 wa : World} {c : PCtx} {pv v' : Value} {ps : List Nd} {kids : List (List Value)} {cs : List Value} {nd : Nd} (hE : Ext (· = c.rb) w wr) (hrow : PRow wr (w.heap.size ≤ ·) pv ps kids) (hx : Ext (· = c.rb) wr w1) (hn : PN w1 (wr.heap.size ≤ ·) cs nd) (hcs : cs.length = 4) (O1 O2 : Obj)
    (hown' : wa.ownsRow 0 115 4 v' (ps.length + 1) (kids.flatten ++ cs)) (hg : ((w1.alloc O1).alloc O2).grownBy wa pv.ownBlock) (hat : v'.ownBlock = pv.ownBlock ∨ v'.ownBlock = some (w1.heap.size + 1 + 1)) (hrb : c.rb < w.heap.size) :
    PRow wa (w.heap.size ≤ ·) v' (ps ++ [nd]) (kids ++ [cs]) ∧ Ext (fun k => pv.ownBlock = some k) w1 wa ∧ (∃ g cap, v' = .slice (some ⟨g, 0, none⟩) (ps.length + 1) cap) ∧ (∀ k, pv.ownBlock = some k → w.heap.size ≤ k) := by
  have sz1 := hE.size
  have sz2 := hx.size
  have hpl : ∀ g, pv.ownBlock = some g → g < wr.heap.size := fun g hg => (hrow.how.lt g hg).2
  have hlo : ∀ k, pv.ownBlock = some k → w.heap.size ≤ k := fun k hk => hrow.hD k hk
  have hxa : Ext (fun k => pv.ownBlock = some k) w1 wa := (((Ext.refl (fun k => pv.ownBlock = some k) w1).alloc O1).alloc O2).grown hg (fun k hk _ => hk)
  have up : ∀ (q : List Value) (p : Nd), PN w1 (fun q => w.heap.size ≤ q ∧ pv.ownBlock ≠ some q ∧ v'.ownBlock ≠ some q) q p → PN wa (fun q => w.heap.size ≤ q ∧ v'.ownBlock ≠ some q) q p := by
    intro q p h4
    exact (h4.ext hxa (fun k _ hk e => hk.2.1 e)).mono (fun k _ hk => ⟨hk.1, hk.2.2⟩)
  refine ⟨⟨?_, ?_, ?_, ?_, ?_⟩, hxa, ?_, hlo⟩
  · rw [List.flatten_append, List.length_append]
    simpa using hown'
  · intro x hx2
    rcases List.mem_append.1 hx2 with h | h
    · exact hrow.hl x h
    · simp at h; rw [h]; exact hcs
  · simp [hrow.hn]
  · intro g hg'
    rcases hat with e | e
    · rw [e] at hg'; exact hlo g hg'
    · rw [e] at hg'; injection hg' with e2; show w.heap.size ≤ g; omega
  · intro i q p hq hp
    by_cases hi : i < ps.length
    · rw [List.getElem?_append_left (by rw [hrow.hn]; exact hi)] at hq
      rw [List.getElem?_append_left hi] at hp
      have h3 := hrow.hk i q p hq hp
      have h4 := h3.ext hx (fun k _ hk e => by have h5 : k = c.rb := e; have h6 : w.heap.size ≤ k := hk.1; omega)
      refine up q p (h4.mono (fun k hk hD => ⟨hD.1, hD.2, ?_⟩))
      intro e
      rcases hat with e2 | e2
      · exact hD.2 (e2.symm.trans e)
      · rw [e2] at e; injection e with e3; omega
    · have hij : i = ps.length := by
        have h1 := (List.getElem?_eq_some_iff.1 hp).1
        simp at h1
        omega
      subst hij
      rw [List.getElem?_append_right (by rw [hrow.hn]; omega)] at hq
      rw [List.getElem?_append_right (by omega)] at hp
      simp [hrow.hn] at hq
      simp at hp
      subst hq
      subst hp
      refine up _ _ (hn.mono (fun k hk hD => ⟨?_, ?_, ?_⟩))
      · have h6 : wr.heap.size ≤ k := hD; show w.heap.size ≤ k; omega
      · intro e; have := hpl k e; have h6 : wr.heap.size ≤ k := hD; omega
      · intro e
        rcases hat with e2 | e2
        · have := hpl k (e2.symm.trans e); have h6 : wr.heap.size ≤ k := hD; omega
        · rw [e2] at e; injection e with e3; omega
  · rcases hown'.2 with ⟨_, e⟩ | ⟨g, cap, cur, hv, _⟩
    · exact absurd e (by omega)
    · exact ⟨g, cap, hv⟩

theorem PToks.mem {w : World} {tb : Nat} : ∀ {ts : List Tk} {i : Nat}, PToks w tb i ts → TS ts
  | [], _, _ => fun _ h => absurd h (by simp)
  | t :: ts, i, h => fun u hu => by
    rcases List.mem_cons.1 hu with rfl | hu
    · exact h.2.2.2.1
    · exact PToks.mem h.2.2.2.2 u hu

theorem PR.ts {w : World} {c : PCtx} {ts : List Tk} {d pl er : Int} (h : PR w c ts d pl er) : TS ts := by
  obtain ⟨o, cap, ht, hc, hb⟩ := h.here
  exact ht.mem

def fv (f : Nat) (rb : Nat) : Value := .func (.func f) #[.pointer (some ⟨rb, 0, none⟩)] #[]

set_option maxRecDepth 100000 in
set_option maxHeartbeats 400000 in
theorem p_row {w : World} {c : PCtx} {ts : List Tk} {d pl er : Int} (g cap : Nat) (fs : List (Nat × (List Tk → Rs Nd))) (h : PR w c ts d pl er) (hfs : fs.length ≤ 600) (L : Nat) (hL : ts.length ≤ L) (hfit : ∀ f ∈ fs, Fits f.2)
    (hg : g < w.heap.size) (hgr : ¬ g = c.rb) (hc : ∀ i f, fs[i]? = some f → w.cell? ⟨g, i, none⟩ = some (.func (.func f.1) #[.pointer (some ⟨c.rb, 0, none⟩)] #[]))
    (hff : ∀ f ∈ fs, f.1 = 72 ∨ f.1 = 153 ∨ f.1 = 186 ∨ f.1 = 214)
    (hf : ∀ f ∈ fs, ∀ (w : World) (ts : List Tk), ts.length ≤ L → PR w c ts d pl er → Calls Tryz.prog f.1 #[.pointer (some ⟨c.rb, 0, none⟩)] w (PPost w c d pl er (f.2 ts))) :
    Calls Tryz.prog 185 #[.pointer (some ⟨c.rb, 0, none⟩), .slice (some ⟨g, 0, none⟩) fs.length cap] w (RowPost w c d pl er (rdRow (fs.map (·.2)) ts)) := by
  obtain ⟨i0, hi, hz0, hz1, hz2⟩ := info_parts info60
  have HI : Hid (Tryz.prog.info? 115 = some i0 ∧ i0.zero = some (.agg #[.int .i64 0, .string ByteArray.empty, .int .i64 0, .slice none 0 0]) ∧ i0.size = 4 ∧ i0.bytes = 56) := ⟨hi, hz0, hz1, hz2⟩
  clear hi hz0 hz1 hz2
  have H := hide h
  have HC := hide hc
  have HF := hide hf
  have HFF := hide hff
  have HFIT := hide hfit
  have HTS := hide h.ts
  have hrb := h.rbs
  have htb := h.tbs
  have hsb := h.sbs
  have HNV := hide h.nvs
  clear h hc hf hff hfit
  go_enter Tryz.func185, Tryz.ntmps185
  go_wp2_with fail
  go_loopw [6, 13] (fun out i wr => ∃ (j : Nat) (sa : Option Addr) (sc : Nat) (ps : List Nd) (us : List Tk) (kids : List (List Value)), i = .int .i64 j ∧ j ≤ fs.length ∧ out = .slice sa j sc ∧ Ext (· = c.rb) w wr ∧ PRow wr (w.heap.size ≤ ·) (.slice sa j sc) ps kids ∧ PR wr c us d pl er ∧ rdRow ((fs.take j).map (·.2)) ts = .ok ps us)
    (fun _ i _ => fs.length - (intOf i).toNat)
  case atStart => exact ⟨0, none, 0, [], ts, [], rfl, Nat.zero_le _, rfl, Ext.refl _ _, ⟨World.ownsRow_nil _ _ _ _, fun _ h => absurd h (by simp), rfl, fun g hg => absurd hg (by simp [Value.ownBlock]), fun _ _ _ h => absurd h (by simp)⟩, H.out, rfl⟩
  case round =>
    obtain ⟨j, sa, sc, ps, us, kids, rfl, hj, rfl, hE, hrow, hpr, hrd⟩ := hrel
    have HE := hide hE
    have HROW := hide hrow
    have HPR := hide hpr
    have HRD := hide hrd
    clear hE hrow hpr hrd
    by_cases hlt : j < fs.length
    · obtain ⟨f, hfj⟩ : ∃ f, fs[j]? = some f := ⟨_, List.getElem?_eq_getElem hlt⟩
      have e1 : wr.cell? ⟨g, j, none⟩ = some (.func (.func f.1) #[.pointer (some ⟨c.rb, 0, none⟩)] #[]) := (HE.out.cell (p := ⟨g, j, none⟩) hg hgr).trans (HC.out j f hfj)
      have hus : us.length ≤ L := by
        have h1 := row_short _ (fun F hF => by
          obtain ⟨x, hx, rfl⟩ := List.mem_map.1 hF
          exact HFIT.out x (List.mem_of_mem_take hx)) ts ps us HTS.out HRD.out
        omega
      have HCALL := hide (HF.out f (List.mem_of_getElem? hfj) wr us hus HPR.out)
      clear hus
      have HFJ := hide hfj
      clear hfj
      have hwhich := HFF.out f (List.mem_of_getElem? HFJ.out)
      obtain ⟨fn, F⟩ := f
      have hsnoc : rdRow ((fs.take (j + 1)).map (·.2)) ts = match F us with | .no e p => .no e p | .ok nd us' => .ok (ps ++ [nd]) us' := by
        have e2 : fs.take (j + 1) = fs.take j ++ [(fn, F)] := by
          obtain ⟨h1, h2⟩ := List.getElem?_eq_some_iff.1 HFJ.out
          rw [List.take_succ_eq_append_getElem h1, h2]
        rw [e2, List.map_append, row_app, HRD.out]
        simp only [List.map_cons, List.map_nil, rdRow]
        cases F us <;> simp
      have HSN := hide hsnoc
      clear hsnoc
      have HPL : Hid (ps.length = j) := by
        show _ = _
        rw [row_len _ _ _ _ HRD.out, List.length_map, List.length_take]; omega
      obtain ⟨hi, hz0, hz1, hz2⟩ := HI.out
      simp only at hwhich e1
      cases hFu : F us with
      | no e p =>
        have hres : rdRow (fs.map (·.2)) ts = .no e p := by
          have e3 : fs = fs.take (j + 1) ++ fs.drop (j + 1) := (List.take_append_drop _ _).symm
          rw [e3, List.map_append, row_app, HSN.out, hFu]
        have HRES := hide hres
        have HCALL' : Hid (Calls Tryz.prog fn #[.pointer (some ⟨c.rb, 0, none⟩)] wr (PPost wr c d pl er (.no e p))) := by
          have := HCALL.out; simp only [hFu] at this; exact this
        clear HCALL hFu HSN hres
        rcases hwhich with rfl | rfl | rfl | rfl
        all_goals
          go_wp2_with fail
          refine HCALL'.out.mono ?_
          rintro en w1 ⟨hx1, rfl, ts', d', hr1⟩
          have HX1 := hide hx1
          have HR1 := hide hr1
          clear hx1 hr1
          go_wp2_with fail
          go_ret2
          rw [HRES.out]
          exact ⟨(HE.out.trans HX1.out).alloc _, rfl, ts', d', HR1.out.new ((Ext.refl _ w1).alloc _)⟩
      | ok nd us' =>
        have hsn2 : rdRow ((fs.take (j + 1)).map (·.2)) ts = .ok (ps ++ [nd]) us' := by rw [HSN.out, hFu]
        have HSN2 := hide hsn2
        have HCALL' : Hid (Calls Tryz.prog fn #[.pointer (some ⟨c.rb, 0, none⟩)] wr (PPost wr c d pl er (.ok nd us'))) := by
          have := HCALL.out; simp only [hFu] at this; exact this
        clear HCALL hFu HSN hsn2
        rcases hwhich with rfl | rfl | rfl | rfl
        all_goals
          go_wp2_with fail
          refine HCALL'.out.mono ?_
          rintro en w1 ⟨hx1, k, wd, v, na, nn, nc, rfl, hn1, hr1⟩
          have HX1 := hide hx1
          have HR1 := hide hr1
          have HN1 := hide hn1
          have HO1 := hide (own_ext HROW.out.how hx1 (fun q hq e => by have h1 : w.heap.size ≤ q := HROW.out.hD q hq; have h2 : q = c.rb := e; omega))
          clear hx1 hr1 hn1
          go_wp2_with (at_builtin; refine wpList_append_own_at _ rfl _ _ 113 rfl 0 115 i0 (.agg #[.int .i64 0, .string ByteArray.empty, .int .i64 0, .slice none 0 0]) 4 56 Tryz.underlying113 hi hz0 hz1 hz2 rfl (by decide) _ _ _ rfl ((HO1.out.alloc _).alloc _) ⟨w1.heap.size + 1, 0, none⟩ 1 1 [.int .i64 k, .string wd, .int .i64 v, .slice na nn nc] rfl rfl ?c1 ?c2 ?c3 ?c4 ?c5 ?_)
          case c1 =>
            intro q u hq2
            match q, hq2 with
            | 0, hq2 => simp at hq2; subst hq2; simp [Addr.add]
            | 1, hq2 => simp at hq2; subst hq2; simp [Addr.add]
            | 2, hq2 => simp at hq2; subst hq2; simp [Addr.add]
            | 3, hq2 => simp at hq2; subst hq2; simp [Addr.add]
          case c2 => intro u hu; simp at hu; rcases hu with rfl | rfl | rfl | rfl <;> rfl
          case c3 => have := HPL.out; unfold maxLen; omega
          case c4 => have := HPL.out; omega
          case c5 => omega
          intro v' wa hown' hgrow _ hat
          obtain ⟨hrow', hxa, ⟨g2, cap2, hv'⟩, hlo⟩ := prow_step HE.out HROW.out HX1.out HN1.out rfl _ _ hown' hgrow hat hrb
          have HROW2 := hide hrow'
          have HE2 : Hid (Ext (· = c.rb) w wa) := (HE.out.trans HX1.out).trans' hxa (fun i hi e => by have := hlo i e; omega)
          have HR2 := hide (HR1.out.ext hxa (fun e => by have := hlo _ e; omega) (fun e => by have := hlo _ e; omega) (fun e => by have := hlo _ e; omega) (fun g hg e => by have h1 := hlo _ e; have := HNV.out g hg; omega) (fun e => by have := hlo _ e; omega))
          clear hown' hgrow hat hrow' hxa hlo
          subst hv'
          go_wp2_with fail
          go_roundw
          case measure => simp [intOf]; omega
          case rel => exact ⟨j + 1, some ⟨g2, 0, none⟩, cap2, ps ++ [nd], us', kids ++ [[.int .i64 k, .string wd, .int .i64 v, .slice na nn nc]], by go_num, by omega, by rw [HPL.out], HE2.out, by have h1 := HROW2.out; rw [HPL.out] at h1; exact h1, HR2.out, HSN2.out⟩
    · have hjn : fs.take j = fs := List.take_of_length_le (by omega)
      have HRES : Hid (rdRow (fs.map (·.2)) ts = .ok ps us) := by
        have := HRD.out; rw [hjn] at this; exact this
      clear hjn
      go_wp2_with fail
      go_ret2
      rw [HRES.out]
      exact ⟨HE.out, sa, j, sc, kids, rfl, HROW.out, HPR.out⟩

end Go.Proofs.YtegbdaffhpiacaaGreatDoor

/- The reader of the document's own answer: a term in brackets. -/
namespace Go.Proofs.YtegbdaffhpiacaaGreatDoor
open Go.RowKit Ar

/-- The loop of a term in brackets has met an error. -/
def TDead (c : Ctx) (F : List Tk → Rs Nd) (k : Int) (r2 : Rs Unit) (L : Nat) (wr : World) (f : ByteArray) : Prop :=
  ∃ (e : Int) (p : Nat), (¬ e = 0) ∧ (∃ ts d', Rd wr c ts d' e p) ∧ f.size + 3 ≤ 603 * L ∧ (r2 = .no e p ∨ ∃ us0, r2 = .ok () us0 ∧ rdRow (List.replicate k.toNat F) us0 = .no e p)

theorem info78 : (Tryz.prog.info? 172).map (fun i => (i.zero, i.size, i.bytes)) = some (some (.pointer none), 1, 8) := by kernel_rfl

set_option maxHeartbeats 400000 in
theorem term_paren {w : World} {c : Ctx} {t : Tk} {ts : List Tk} {d pl : Int} {n : Nat} (h : Rd w c (t :: ts) d 0 pl) (ho : (t.txt.toList == [40]) = true) (hn : ts.length ≤ n)
    (ih : ∀ (w : World) (ts : List Tk) (d pl : Int), ts.length ≤ n → Rd w c ts d 0 pl → Calls Tryz.prog 159 #[.pointer (some ⟨c.rb, 0, none⟩)] w (TermPost w c ts d pl (rdTerm c.N n d ts))) :
    Calls Tryz.prog 159 #[.pointer (some ⟨c.rb, 0, none⟩)] w (TermPost w c (t :: ts) d pl (rdTerm c.N (n + 1) d (t :: ts))) := by
  have hsm := h.small
  have IH := hide ih
  have HNn := hide hn
  have H := hide h
  have HN := number_any t.txt
  rw [num_open ho] at HN
  have HN' := hide HN
  have hrb := h.rbs
  have htb := h.tbs
  have hnb := h.nbs
  have hd0 := h.dlo
  clear h HN ih hn
  obtain ⟨r1, hr1⟩ : ∃ r1 : Rs Unit, (if 30 ≤ d then Rs.no 6 t.pos else Rs.ok () ts) = r1 := ⟨_, rfl⟩
  have HT : Hid (∀ W : World, Rd W c (t :: ts) d 0 pl → Calls Tryz.prog 198 #[.pointer (some ⟨c.rb, 0, none⟩)] W fun en w' => en = .returned (.tuple #[]) ∧ Ext (· = c.rb) W w' ∧ Sd w' c (d + 1) pl r1) := by
    intro W hW
    rw [← hr1]
    exact sd_take_open hW ho
  have HR1 := hide hr1
  clear hr1
  obtain ⟨i0, hi, hz0, hz1, hz2⟩ := info_parts info78
  have HI : Hid (Tryz.prog.info? 172 = some i0 ∧ i0.zero = some (.pointer none) ∧ i0.size = 1 ∧ i0.bytes = 8) := ⟨hi, hz0, hz1, hz2⟩
  clear hi hz0 hz1 hz2
  go_enter Tryz.func159, Tryz.ntmps159
  go_wp2_with first
    | (go_at_call 161; refine (rd_next H.out).mono ?_; rintro e w' ⟨rfl, m, rfl⟩)
    | (go_at_call 170; refine (HN'.out _ hsm).mono ?_; rintro e w' ⟨rfl, rfl⟩)
  have hx0 : Ext (fun _ => False) w ((w.drewN m).alloc (Obj.cells #[.string t.txt, .slice none 0 0, .int .i64 0, .bool true, .string t.txt] 235)) := ((Ext.refl _ w).drewN m).alloc _
  refine (HT.out _ (H.out.ext hx0 (fun f => f) (fun f => f) (fun f => f))).mono ?_
  rintro e w1 ⟨rfl, hx1, hs1⟩
  have kb1 : w1.heap[w.heap.size]? = some (.cells #[.string t.txt, .slice none 0 0, .int .i64 0, .bool true, .string t.txt] 235) :=
    (hx1.block _ (block_lt (heap_alloc_new (w.drewN m) _)) (by show ¬ w.heap.size = c.rb; omega)).trans (heap_alloc_new (w.drewN m) _)
  have k0 := cell_of_block kb1 0
  have f0 := frozen_of_block kb1 0
  have HX1 : Hid (Ext (· = c.rb) w w1) := (hx0.mono (fun _ _ f => f.elim)).trans hx1
  have KB1 := hide kb1
  have HS1 := hide hs1
  clear hx0 hx1 kb1 hs1
  go_wp2_with fail
  refine (sd_next HS1.out).mono ?_
  rintro e w' ⟨s1, rfl, hs1, tie1, n1, rfl⟩
  have TIE1 := hide tie1
  clear tie1
  go_wp2_with fail
  have hxs : Ext (· = w.heap.size) w1 ((w1.drewN n1).setCell ⟨w.heap.size, 0, none⟩ (.string s1)) := ((Ext.refl (· = w.heap.size) w1).drewN n1).setCell (p := ⟨w.heap.size, 0, none⟩) (fun _ => rfl) _
  refine (sd_name true (HS1.out.ext hxs (by show ¬ c.rb = w.heap.size; omega) (by show ¬ c.tb = w.heap.size; omega) (by show ¬ c.nb = w.heap.size; omega))).mono ?_
  rintro e w2 ⟨k, rfl, hx2, hs2, tie2⟩
  have kbs : ((w1.drewN n1).setCell ⟨w.heap.size, 0, none⟩ (.string s1)).heap[w.heap.size]? = some (.cells #[.string s1, .slice none 0 0, .int .i64 0, .bool true, .string t.txt] 235) := block_setCell (w := w1.drewN n1) KB1.out 0 _
  have kb2 : w2.heap[w.heap.size]? = some (.cells #[.string s1, .slice none 0 0, .int .i64 0, .bool true, .string t.txt] 235) :=
    (hx2.block _ (block_lt kbs) (by show ¬ w.heap.size = c.rb; omega)).trans kbs
  have HX2 : Hid (Ext (· = c.rb) w w2) := (HX1.out.trans' hxs (fun i hi e => by omega)).trans hx2
  have k20 := cell_of_block kb2 0
  have k24 := cell_of_block kb2 4
  have f24 := frozen_of_block kb2 4
  have KB2 := hide kb2
  have HS2 := hide hs2
  have TIE2 := hide tie2
  clear k0 f0 hxs hx2 hs2 tie2 kbs kb2
  have HK : Hid (∀ us0, nmStep c.N true r1 = .ok () us0 → 1 ≤ k ∧ k ≤ 3 ∧ ∃ u', ts = u' :: us0 ∧ s1 = u'.txt ∧ nameErr c.N true u'.txt.toList = 0 ∧ (arOf c.N u'.txt.toList) = some k ∧ d < 30) := by
    intro us0 e2
    have e3 := e2
    rw [← HR1.out] at e3
    obtain ⟨hd30, u', hts, hne⟩ := nm_ok e3
    have er : r1 = .ok () (u' :: us0) := by rw [← HR1.out, if_neg (by omega), hts]
    have e4 := TIE2.out () u' us0 () us0 er e2
    obtain ⟨_, a, ha, h1, h3⟩ := name_ok_ar H.out.names hne
    rw [ha] at e4
    have e5 : k = a := e4
    subst e5
    exact ⟨h1, h3, u', hts, TIE1.out () u' us0 er, hne, ha, hd30⟩
  go_wp2_with fail
  have HF0 : Hid ((ByteArray.mk #[40] ++ s1).toList = 40 :: (s1.toList ++ [])) := by
    show _ = _
    rw [toList_app, one_byte]; simp
  have HTS := hide H.out.ts
  have HL1 := hide H.out.len
  have HNE : Hid (2 ≤ (t :: ts).length) := by
    have h1 := H.out.wf.tail (by rw [beq_iff_eq.1 ho]; simp)
    have h2 := h1.ne
    cases ts with
    | nil => exact absurd rfl h2
    | cons a b => show 2 ≤ b.length + 1 + 1; omega
  go_loopw [8] (fun i wr => ∃ (j : Nat) (pv : Value) (f : ByteArray), i = .int .i64 j ∧ Ext (· = c.rb) w wr ∧ wr.heap[w.heap.size]? = some (.cells #[.string s1, pv, .int .i64 0, .bool true, .string f] 235) ∧
      ((∃ us0 us ps kids, nmStep c.N true r1 = .ok () us0 ∧ (j : Int) ≤ k ∧ TLive w c (d + 1) pl (rdArg (rdTerm c.N n (d + 1))) (40 :: s1.toList) us0 wr j pv f us ps kids) ∨ TDead c (rdArg (rdTerm c.N n (d + 1))) k (nmStep c.N true r1) (t :: ts).length wr f))
    (fun i _ => k.toNat - (intOf i).toNat)
  case atStart =>
    have hxe : Ext (· = w.heap.size) w2 (w2.setCell ⟨w.heap.size, 4, none⟩ (.string (ByteArray.mk #[40] ++ s1))) := (Ext.refl (· = w.heap.size) w2).setCell (p := ⟨w.heap.size, 4, none⟩) (fun _ => rfl) _
    have hS := HS2.out.ext hxe (by show ¬ c.rb = w.heap.size; omega) (by show ¬ c.tb = w.heap.size; omega) (by show ¬ c.nb = w.heap.size; omega)
    refine ⟨0, .slice none 0 0, ByteArray.mk #[40] ++ s1, rfl, HX2.out.trans' hxe (fun i hi e => by omega), block_setCell KB2.out 4 _, ?_⟩
    cases hr2 : nmStep c.N true r1 with
    | ok u us0 =>
      rw [hr2] at hS
      have := HK.out us0 hr2
      exact Or.inl ⟨us0, us0, [], [], rfl, by omega, rfl, hS, by rw [HF0.out]; rfl, World.ownsRow_nil _ _ _ _, fun g hg => absurd hg (by simp [Value.ownBlock]), fun i b p hk => absurd hk (by simp)⟩
    | no e p =>
      rw [hr2] at hS
      obtain ⟨h0, ts', d', hr⟩ := hS
      have h2 := HNE.out
      have h3 := size_of HF0.out
      have h4 := len_toList s1
      refine Or.inr ⟨e, p, h0, ⟨ts', d', hr⟩, ?_, Or.inl rfl⟩
      rw [h3]; simp at h2 ⊢; omega
  case round =>
    obtain ⟨j, pv, f, rfl, hE, kb, hst⟩ := hrel
    have KB := hide kb
    have HE := hide hE
    clear k20 k24 f24 HX2 KB2 HS2 TIE2 HX1 KB1 HS1 TIE1 HT hE
    rcases hst with ⟨us0, us, ps, kids, e2, hjk, hrow, hrd, hf, hown, hpv, hkids⟩ | ⟨e, p, he0, ⟨tsx, dx, hrd⟩, hfs, hres⟩
    · obtain ⟨hk1, hk3, u', hts, hs1u, hne, hka, hd30⟩ := HK.out us0 e2
      obtain ⟨v, vs, rfl⟩ := hrd.head
      have c4 := hrd.c4
      have hb0 : TS us0 := by
        intro x hx
        exact HTS.out x (by rw [hts]; exact List.mem_cons_of_mem _ (List.mem_cons_of_mem _ hx))
      have hfit := row_fits _ (fun g hg => by rw [(List.mem_replicate.1 hg).2]; exact arg_fits (term_fits c.N n (d + 1))) us0 ps (v :: vs) hb0 hrow
      have hsz := size_of hf
      have hs1l := len_toList s1
      have hfb : f.size + 603 * (v :: vs).length ≤ 601 + 603 * us0.length := by
        rw [hsz]; simp at hfit ⊢; omega
      have hLL : (t :: ts).length = us0.length + 2 := by rw [hts]; rfl
      have hplen : ps.length = j := by rw [row_len _ _ _ _ hrow]; simp
      have hvn : (v :: vs).length ≤ n := by
        have h1 := HNn.out
        have h2 := hfit.1
        rw [hts] at h1
        simp at h1 h2 ⊢; omega
      have HROW := hide hrow
      have HRD := hide hrd
      have HF := hide hf
      have HOWN := hide hown
      have HPV := hide hpv
      have HKIDS := hide hkids
      have HE2 := hide e2
      have HTSU := hide hts
      have HS1U := hide hs1u
      have HNERR := hide hne
      have HKA := hide hka
      have HFB := hide hfb
      have HLL := hide hLL
      have HPL := hide hplen
      have HVN := hide hvn
      have hfi : f.size ≤ 400000 := by have := HL1.out; omega
      clear hrow hrd hf hown hpv hkids e2 hts hs1u hne hka hfb hLL hplen hvn hfit hsz hb0 kb
      by_cases hlt : (j : Int) < k
      · cases hq : (v.txt.toList == [41]) with
        | true =>
          go_wp2_with first
            | (go_at_call 161; refine (rd_next HRD.out).mono ?_; rintro e w' ⟨rfl, m2, rfl⟩)
            | (go_at_call 162; refine (rd_fail_live _ (HRD.out.drewN _)).mono ?_; rintro e w5 ⟨rfl, hx, hr⟩)
          go_ret
          have hres : rdTerm c.N (n + 1) d (t :: ts) = .no 4 v.pos := by
            rw [rdTerm_paren ho hd30 HTSU.out HNERR.out HKA.out hk1, row_snoc_no HROW.out (by rw [rdArg, if_pos (by simpa using hq)]) (by omega)]
            rfl
          have hxw : Ext (· = c.rb) wr w5 := ((Ext.refl _ wr).drewN m2).trans hx
          have k5 : w5.heap[w.heap.size]? = some (.cells #[.string s1, pv, .int .i64 0, .bool true, .string f] 235) := (hxw.block _ (block_lt KB.out) (by show ¬ w.heap.size = c.rb; omega)).trans KB.out
          rw [hres]
          refine ⟨w.heap.size, _, _, _, _, f, rfl, Nat.le_refl _, HE.out.trans hxw, k5, ?_, ⟨by decide, v :: vs, d + 1, hr⟩, fun nd ts' e => absurd e (by simp)⟩
          have g2 := HFB.out
          have g3 := HLL.out
          omega
        | false =>
          go_wp2_with (go_at_call 161; refine (rd_next HRD.out).mono ?_; rintro e w' ⟨rfl, m2, rfl⟩)
          refine (IH.out _ (v :: vs) (d + 1) pl HVN.out (HRD.out.drewN m2)).mono ?_
          rintro e wt ⟨b, x0, x1, x2, x3, f', rfl, hb, hx, bb, hfs', hsd, hrn⟩
          have hxt : Ext (· = c.rb) wr wt := ((Ext.refl _ wr).drewN m2).trans hx
          have kbt : wt.heap[w.heap.size]? = some (.cells #[.string s1, pv, .int .i64 0, .bool true, .string f] 235) := (hxt.block _ (block_lt KB.out) (by show ¬ w.heap.size = c.rb; omega)).trans KB.out
          have t1 := cell_of_block kbt 1
          have HOT : Hid (wt.ownsRow 0 172 1 pv j (kids.map kp)) := own_ext HOWN.out hxt (fun g hg e => by have := HPV.out g hg; omega)
          have HX := hide hx
          have BB := hide bb
          have HSD := hide hsd
          have HRN := hide hrn
          have HB := hide hb
          have HFS := hide hfs'
          have hf'i : f'.size ≤ 400000 := by have h1 := HL1.out; have h2 := HFS.out; have h3 := HFB.out; have h4 := HLL.out; omega
          clear hxt kbt hx bb hsd hrn hb hfs'
          obtain ⟨hi, hz0, hz1, hz2⟩ := HI.out
          go_wp2_with (at_builtin; refine wpList_append_own_at _ rfl _ _ 171 rfl 0 172 i0 (.pointer none) 1 8 Tryz.underlying171 hi hz0 hz1 hz2 rfl (by decide) _ _ _ rfl (HOT.out.alloc _) ⟨wt.heap.size, 0, none⟩ 1 1 [.pointer (some ⟨b, 0, none⟩)] rfl rfl ?c1 ?c2 ?c3 ?c4 ?c5 ?_)
          case c1 =>
            intro q u hq2
            match q, hq2 with
            | 0, hq2 => simp at hq2; subst hq2; simp [Addr.add]
          case c2 => intro u hu; simp at hu; subst hu; rfl
          case c3 => unfold maxLen; omega
          case c4 => omega
          case c5 => omega
          intro v' wa hown' hgrow _ hat
          obtain ⟨ka, kab, hbx, ⟨g, cap, hv', hgx, hgb⟩, hall⟩ := part_step (hd := 40 :: s1.toList) HE.out hrb htb hnb HOWN.out HPV.out HKIDS.out HPL.out HF.out KB.out ((Ext.refl _ wr).drewN m2) HB.out HX.out BB.out HSD.out HRN.out _ hown' hgrow hat
          have HALL := hide hall
          have a1 := cell_of_block ka 1
          have a4 := cell_of_block ka 4
          have fa1 := frozen_of_block ka 1
          have fa4 := frozen_of_block ka 4
          have b4 := cell_of_block kab 4
          have KA := hide ka
          clear hall ka kab hown' hgrow hat hi hz0 hz1 hz2 t1
          subst hv'
          go_wp2_with fail
          go_region
          go_wp2_with fail
          go_roundw
          case measure => simp [intOf]; omega
          case rel =>
            have hW : Ext (· = w.heap.size) wa (((wa.setCell ⟨w.heap.size, 1, none⟩ (.slice (some ⟨g, 0, none⟩) (j + 1) cap)).setCell ⟨w.heap.size, 4, none⟩ (.string (f ++ ⟨#[32]⟩ ++ f'))).drew) :=
              (((Ext.refl (· = w.heap.size) wa).setCell (p := ⟨w.heap.size, 1, none⟩) (fun _ => rfl) _).setCell (p := ⟨w.heap.size, 4, none⟩) (fun _ => rfl) _).drew
            have kW := block_setCell (block_setCell KA.out 1 (.slice (some ⟨g, 0, none⟩) (j + 1) cap)) 4 (.string (f ++ ⟨#[32]⟩ ++ f'))
            obtain ⟨q1, q2, q3, q4, q5⟩ := HALL.out _ hW kW
            refine ⟨j + 1, _, _, by go_num, q1, kW, ?_⟩
            have harg : rdArg (rdTerm c.N n (d + 1)) (v :: vs) = rdTerm c.N n (d + 1) (v :: vs) := by
              rw [rdArg, if_neg (by simpa using hq)]
            cases hrt : rdTerm c.N n (d + 1) (v :: vs) with
            | ok nd vs' =>
              rw [hrt] at q2
              obtain ⟨q6, q7⟩ := q5 nd vs' hrt
              exact Or.inl ⟨us0, vs', ps ++ [nd], kids ++ [b], HE2.out, by omega, row_snoc_ok HROW.out (harg.trans hrt), q2, q6, q4, q3, q7⟩
            | no e p =>
              rw [hrt] at q2
              obtain ⟨h0, ts', d', hr⟩ := q2
              refine Or.inr ⟨e, p, h0, ⟨ts', d', hr⟩, ?_, Or.inr ⟨us0, HE2.out, row_snoc_no HROW.out (harg.trans hrt) (by omega)⟩⟩
              have g1 := HFS.out
              have g2 := HFB.out
              have g3 := HLL.out
              simp only [ByteArray.size_append']
              have g4 : (ByteArray.mk #[32]).size = 1 := rfl
              omega
      · have hjk2 : k.toNat = j := by omega
        have hclose : rdTerm c.N (n + 1) d (t :: ts) = rdShut 4 3 u'.txt ps (v :: vs) := by
          rw [rdTerm_paren ho hd30 HTSU.out HNERR.out HKA.out hk1, hjk2, HROW.out]; rfl
        have HCL := hide hclose
        clear hclose hjk2
        have hjf : ¬ (j : Int) < k := hlt
        cases hq : (v.txt.toList == [41]) with
        | true =>
          go_wp2_with first
            | (go_at_call 161; refine (rd_next HRD.out).mono ?_; rintro e w' ⟨rfl, m2, rfl⟩)
            | (go_at_call 199; refine (rd_must_close (HRD.out.drewN _) hq (by omega)).mono ?_; rintro e w5 ⟨rfl, hx, hr⟩
               have k5 : w5.heap[w.heap.size]? = some (.cells #[.string s1, pv, .int .i64 0, .bool true, .string f] 235) := ((((Ext.refl _ wr).drewN m2).trans hx).block _ (block_lt KB.out) (by show ¬ w.heap.size = c.rb; omega)).trans KB.out
               have k54 := cell_of_block k5 4
               have f54 := frozen_of_block k5 4
               have K5 := hide k5
               have HX5 := hide hx
               have HR5 := hide hr
               clear k5 hx hr)
          go_ret
          have hxw : Ext (· = c.rb) wr w5 := ((Ext.refl _ wr).drewN m2).trans HX5.out
          have hxe : Ext (· = w.heap.size) w5 (w5.setCell ⟨w.heap.size, 4, none⟩ (.string (f ++ ⟨#[41]⟩))) := (Ext.refl (· = w.heap.size) w5).setCell (p := ⟨w.heap.size, 4, none⟩) (fun _ => rfl) _
          have kW := block_setCell K5.out 4 (.string (f ++ ⟨#[41]⟩))
          have hr := HR5.out.ext hxe (by show ¬ c.rb = w.heap.size; omega) (by show ¬ c.tb = w.heap.size; omega) (by show ¬ c.nb = w.heap.size; omega)
          rw [show d + 1 - 1 = d from by omega] at hr
          rw [HCL.out, rdShut, if_pos (by simpa using hq)]
          have g1 := HFB.out
          have g2 := HLL.out
          have g4 : (ByteArray.mk #[41]).size = 1 := rfl
          refine ⟨w.heap.size, _, _, _, _, _, rfl, Nat.le_refl _, (HE.out.trans hxw).trans' hxe (fun i hi e => by omega), kW, ?_, hr, ?_⟩
          · simp only [ByteArray.size_append']; simp at g1; omega
          · intro nd ts' e
            injection e with e1 e2
            subst e1
            rw [← HS1U.out]
            have hps : ps ≠ [] := by intro e; have := HPL.out; rw [e] at this; simp at this; omega
            refine RN.mk (pv := pv) (form := f ++ ⟨#[41]⟩) (kids := kids) ?_ (Nat.le_refl _) ?_ ?_ (fun g hg => Nat.le_of_lt (HPV.out g hg)) ?_
            · exact kW
            · rw [formOf, if_pos (Or.inr (Or.inr hps)), tokOf, if_neg (by decide), toList_app, HF.out, one_byte]; simp
            · rw [rps, if_neg (by decide), HPL.out]
              exact own_ext (own_ext HOWN.out hxw (fun g hg e => by have := HPV.out g hg; omega)) hxe (fun g hg e => by have := HPV.out g hg; omega)
            · intro i q p hq1 hq2
              rw [rps, if_neg (by decide)] at hq2
              have h1 := HKIDS.out i q p hq1 hq2
              have h2 := h1.ext hxw (fun k _ hk e => by have := hk.1; omega)
              have h3 := h2.ext hxe (fun k _ hk e => by have := hk.1; omega)
              exact h3.mono (fun k _ hk => Nat.le_of_lt hk.1)
        | false =>
          have HQ : Hid ((v.txt.toList == (ByteArray.mk #[41]).toList) = false) := by
            show _ = _
            rw [one_byte]; exact hq
          cases hem : v.txt.toList.isEmpty with
          | true =>
            go_wp2_with first
              | (go_at_call 161; refine (rd_next (w := wr) HRD.out).mono ?_; rintro e w' ⟨rfl, m2, rfl⟩)
              | (go_at_call 161; refine (rd_next (HRD.out.drewN _)).mono ?_; rintro e w' ⟨rfl, m3, rfl⟩)
              | (go_at_call 199; refine (rd_must_no _ (HRD.out.drewN _) HQ.out).mono ?_; rintro e w5 ⟨rfl, hx, hr⟩
                 have hxw : Ext (· = c.rb) wr w5 := ((Ext.refl _ wr).drewN _).trans hx
                 have k5 : w5.heap[w.heap.size]? = some (.cells #[.string s1, pv, .int .i64 0, .bool true, .string f] 235) := (hxw.block _ (block_lt KB.out) (by show ¬ w.heap.size = c.rb; omega)).trans KB.out
                 have k54 := cell_of_block k5 4
                 have f54 := frozen_of_block k5 4
                 have K5 := hide k5
                 have HX5 := hide hxw
                 have HR5 := hide hr
                 clear k5 hx hr hxw)
            go_ret
            have g1 := HFB.out
            have g2 := HLL.out
            rw [HCL.out, rdShut, if_neg (by simpa using hq), if_pos (by simpa using hem)]
            exact dead_end (HE.out.trans HX5.out) hrb htb hnb K5.out HR5.out (by decide) (by simp at g1 g2 ⊢; omega)
          | false =>
            go_wp2_with first
              | (go_at_call 161; refine (rd_next (w := wr) HRD.out).mono ?_; rintro e w' ⟨rfl, m2, rfl⟩)
              | (go_at_call 161; refine (rd_next (HRD.out.drewN _)).mono ?_; rintro e w' ⟨rfl, m3, rfl⟩)
              | (go_at_call 162; refine (rd_fail_live _ (HRD.out.drewN _)).mono ?_; rintro e w5 ⟨rfl, hx, hr⟩
                 have hxw : Ext (· = c.rb) wr w5 := ((Ext.refl _ wr).drewN _).trans hx
                 have k5 : w5.heap[w.heap.size]? = some (.cells #[.string s1, pv, .int .i64 0, .bool true, .string f] 235) := (hxw.block _ (block_lt KB.out) (by show ¬ w.heap.size = c.rb; omega)).trans KB.out
                 have k54 := cell_of_block k5 4
                 have f54 := frozen_of_block k5 4
                 have K5 := hide k5
                 have HX5 := hide hxw
                 have HR5 := hide hr
                 clear k5 hx hr hxw)
              | (go_at_call 199; refine (rd_must_dead _ HR5.out (by decide)).mono ?_; rintro e w' ⟨rfl, m4, rfl⟩)
            go_ret
            have g1 := HFB.out
            have g2 := HLL.out
            rw [HCL.out, rdShut, if_neg (by simpa using hq), if_neg (by intro e; rw [e] at hem; exact absurd hem (by decide))]
            exact dead_end (w5 := w5.drewN m4) ((HE.out.trans HX5.out).drewN m4) hrb htb hnb K5.out (HR5.out.drewN m4) (by decide) (by simp at g1 g2 ⊢; omega)
    · have he0' : (e == 0) = false := by simpa using he0
      have c4 := hrd.c4
      obtain ⟨v, vs, rfl⟩ := hrd.head
      have HRD := hide hrd
      have HRES : Hid (rdTerm c.N (n + 1) d (t :: ts) = .no e p) := by
        rcases hres with hres | ⟨us0, e2, hrow⟩
        · rw [← HR1.out] at hres
          exact rdTerm_noname H.out.names ho (by have := HNE.out; intro e; rw [e] at this; simp at this) hres
        · obtain ⟨hk1, hk3, u', hts, hs1u, hne, hka, hd30⟩ := HK.out us0 e2
          show _ = _
          rw [rdTerm_paren ho hd30 hts hne hka hk1, hrow]; rfl
      have HFS := hide hfs
      have hfi : f.size ≤ 400000 := by have := HL1.out; omega
      clear hrd hfs hres kb
      have k4 := cell_of_block KB.out 4
      have fr4 := frozen_of_block KB.out 4
      by_cases hlt : (j : Int) < k
      all_goals
        cases hq : (v.txt.toList == [41]) with
        | true =>
          go_wp2_with first
            | (go_at_call 161; refine (rd_next HRD.out).mono ?_; rintro e w' ⟨rfl, m2, rfl⟩)
            | (go_at_call 199; refine (rd_must_dead _ (HRD.out.drewN _) he0).mono ?_; rintro e w' ⟨rfl, m3, rfl⟩)
          go_ret
          rw [HRES.out]
          exact dead_end (w5 := wr.drewN (m2 + m3)) (HE.out.drewN _) hrb htb hnb KB.out (HRD.out.drewN _) he0 (by have := HFS.out; omega)
        | false =>
          cases hem : v.txt.toList.isEmpty with
          | true =>
            go_wp2_with first
              | (go_at_call 161; refine (rd_next (w := wr) HRD.out).mono ?_; rintro e w' ⟨rfl, m2, rfl⟩)
              | (go_at_call 161; refine (rd_next (HRD.out.drewN _)).mono ?_; rintro e w' ⟨rfl, m3, rfl⟩)
              | (go_at_call 199; refine (rd_must_dead _ (HRD.out.drewN _) he0).mono ?_; rintro e w' ⟨rfl, m4, rfl⟩)
            go_ret
            rw [HRES.out]
            exact dead_end (w5 := wr.drewN (m2 + m3 + m4)) (HE.out.drewN _) hrb htb hnb KB.out (HRD.out.drewN _) he0 (by have := HFS.out; omega)
          | false =>
            go_wp2_with first
              | (go_at_call 161; refine (rd_next (w := wr) HRD.out).mono ?_; rintro e w' ⟨rfl, m2, rfl⟩)
              | (go_at_call 161; refine (rd_next (HRD.out.drewN _)).mono ?_; rintro e w' ⟨rfl, m3, rfl⟩)
              | (go_at_call 162; refine (rd_fail_dead _ (HRD.out.drewN _) he0).mono ?_; rintro e w' ⟨rfl, rfl⟩)
              | (go_at_call 199; refine (rd_must_dead _ (HRD.out.drewN _) he0).mono ?_; rintro e w' ⟨rfl, m4, rfl⟩)
            go_ret
            rw [HRES.out]
            exact dead_end (w5 := wr.drewN (m2 + m3 + m4)) (HE.out.drewN _) hrb htb hnb KB.out (HRD.out.drewN _) he0 (by have := HFS.out; omega)

end Go.Proofs.YtegbdaffhpiacaaGreatDoor

/- The reader of the document's own answer: a term, whatever comes. -/
namespace Go.Proofs.YtegbdaffhpiacaaGreatDoor
open Go.RowKit Ar

theorem num_not_name {l : List UInt8} {v : Int} (h : numOf l = some v) : isName l = false := by
  cases hn : isName l with
  | false => rfl
  | true =>
    exfalso
    have hl : l.all letter = true := by
      cases hq : l.all letter with
      | true => rfl
      | false => rw [name_no l hq] at hn; exact absurd hn (by decide)
    cases l with
    | nil => exact absurd hn (by decide)
    | cons c r =>
      simp only [List.all_cons, Bool.and_eq_true] at hl
      have h1 := hl.1
      simp [letter] at h1
      unfold numOf at h
      have hc : ¬ (c :: r).head? = some 45 := by
        intro e
        simp at e
        subst e
        exact absurd h1.1 (by decide)
      have hu : unMinus (c :: r) = c :: r := by rw [unMinus, if_neg hc]
      rw [hu] at h
      rw [if_pos] at h
      · exact absurd h (by simp)
      · refine Or.inr (Or.inl ?_)
        have : digit c = false := by simp [digit]; omega
        simp [this]

theorem term_any (c : Ctx) (n : Nat) : ∀ (w : World) (ts : List Tk) (d pl : Int), ts.length ≤ n → Rd w c ts d 0 pl → Calls Tryz.prog 159 #[.pointer (some ⟨c.rb, 0, none⟩)] w (TermPost w c ts d pl (rdTerm c.N n d ts)) := by
  induction n with
  | zero =>
    intro w ts d pl hn h
    obtain ⟨t, us, rfl⟩ := h.head
    simp at hn
  | succ n ih =>
    intro w ts d pl hn h
    obtain ⟨t, us, rfl⟩ := h.head
    cases ho : (t.txt.toList == [40]) with
    | true => exact term_paren h ho (by simp at hn; omega) ih
    | false =>
      have ho' : ¬ t.txt.toList = [40] := by simpa using ho
      cases hv : numOf t.txt.toList with
      | some v =>
        have hnn := num_not_name hv
        have e : rdTerm c.N (n + 1) d (t :: us) = if v < -1000 ∨ 1000 < v then .no 5 t.pos else .ok (.mk 4 ByteArray.empty v []) us := by
          rw [rdTerm.eq_def]
          simp only
          rw [if_neg ho', if_neg (by rw [hnn]; decide), rdNum, hv]
        rw [e]
        by_cases hg : v < -1000 ∨ 1000 < v
        · rw [if_pos hg]; exact term_num_great h hv hg
        · rw [if_neg hg]; exact term_num_ok h hv (by omega) (by omega)
      | none =>
        have e : rdTerm c.N (n + 1) d (t :: us) = nameRes c.N t us := by
          rw [rdTerm.eq_def]
          simp only
          rw [if_neg ho']
          unfold nameRes
          cases hn : isName t.txt.toList with
          | false =>
            have hne : nameErr c.N false t.txt.toList = 2 := by rw [nameErr, hn, if_pos rfl]
            rw [hne, if_neg (by decide), rdNum, hv, if_neg (by decide)]
          | true =>
            rw [if_pos rfl]
            cases ha : arOf c.N t.txt.toList with
            | none =>
              have hne : nameErr c.N false t.txt.toList = 3 := by rw [nameErr, hn, ha, if_neg (by decide), if_pos (by decide)]
              rw [hne, if_neg (by decide)]
            | some a =>
              have hb := ar_bd h.names ha
              by_cases h3 : a = 0
              · subst h3
                have hne : nameErr c.N false t.txt.toList = 0 := by rw [nameErr, hn, ha, if_neg (by decide), if_neg (by decide), if_neg (by decide)]
                rw [hne]; rfl
              · have h4 : 0 < a := by omega
                have hne : nameErr c.N false t.txt.toList = 4 := by
                  rw [nameErr, hn, ha, if_neg (by decide), Option.getD_some, if_neg (by omega), if_pos (by simp [h4])]
                rw [hne, if_neg (by decide)]
                simp only [if_neg h3]
        rw [e]
        exact term_name h hv ho

end Go.Proofs.YtegbdaffhpiacaaGreatDoor

/- The reader of the document's own answer: formulas without brackets, brackets too deep, brackets whose first word cannot stand there. -/
namespace Go.Proofs.YtegbdaffhpiacaaGreatDoor
open Go.RowKit Ar

theorem truth_word {l : List UInt8} (h : l = wTrue ∨ l = wFalse) : (l == [40]) = false ∧ (l == [41]) = false ∧ l.isEmpty = false := by
  rcases h with rfl | rfl <;> exact ⟨by decide, by decide, by decide⟩

set_option maxRecDepth 100000 in
set_option maxHeartbeats 400000 in
theorem form_truth {w : World} {c : Ctx} {t : Tk} {ts : List Tk} {d pl : Int} (h : Rd w c (t :: ts) d 0 pl) (ht : t.txt.toList = wTrue ∨ t.txt.toList = wFalse) :
    Calls Tryz.prog 160 #[.pointer (some ⟨c.rb, 0, none⟩)] w (TermPost w c (t :: ts) d pl (.ok (.mk 0 t.txt 0 []) ts)) := by
  obtain ⟨q1, q2, q3⟩ := truth_word ht
  have H := hide h
  have hrb := h.rbs
  clear h
  have hor : (t.txt.toList == [116, 114, 117, 101]) = true ∨ ((t.txt.toList == [116, 114, 117, 101]) = false ∧ (t.txt.toList == [102, 97, 108, 115, 101]) = true) := by
    rcases ht with e | e <;> rw [e]
    · exact Or.inl (by decide)
    · exact Or.inr (by decide)
  clear ht
  rcases hor with hw | ⟨hw1, hw⟩
  all_goals
    go_enter Tryz.func160, Tryz.ntmps160
    go_wp2_with (go_at_call 161; refine (rd_next H.out).mono ?_; rintro e w' ⟨rfl, m, rfl⟩)
    have hx0 : Ext (fun _ => False) w ((w.drewN m).alloc (Obj.cells #[.string t.txt, .slice none 0 0, .int .i64 0, .bool false, .string t.txt] 235)) := ((Ext.refl _ w).drewN m).alloc _
    refine (rd_take_word (H.out.ext hx0 (fun f => f) (fun f => f) (fun f => f)) q1 q2 q3).mono ?_
    rintro e w1 ⟨rfl, hx, hr⟩
    have kb : w1.heap[w.heap.size]? = some (.cells #[.string t.txt, .slice none 0 0, .int .i64 0, .bool false, .string t.txt] 235) :=
      (hx.block _ (block_lt (heap_alloc_new (w.drewN m) _)) (by show ¬ w.heap.size = c.rb; omega)).trans (heap_alloc_new (w.drewN m) _)
    go_wp2_with fail
    go_ret
    have hxa : Ext (· = c.rb) w w1 := (hx0.mono (fun _ _ f => f.elim)).trans hx
    have ht := H.out.ts t (List.mem_cons_self ..)
    refine ⟨w.heap.size, _, _, _, _, t.txt, rfl, Nat.le_refl _, hxa, kb, by simp; omega, hr, ?_⟩
    intro nd ts' e
    injection e with e1 e2
    subst e1
    refine RN.mk (pv := .slice none 0 0) (form := t.txt) (kids := []) kb (Nat.le_refl _) ?_ (World.ownsRow_nil _ _ _ _) (fun g hg => absurd hg (by simp [Value.ownBlock])) (fun i c p h => absurd h (by simp))
    rw [formOf, if_neg (by simp), tokOf, if_neg (by decide)]

set_option maxRecDepth 100000 in
set_option maxHeartbeats 400000 in
/-- A formula must begin with a bracket, and none comes; or one comes that is too deep. -/
theorem form_noopen {w : World} {c : Ctx} {t : Tk} {ts : List Tk} {d pl : Int} (h : Rd w c (t :: ts) d 0 pl) (hw1 : (t.txt.toList == [116, 114, 117, 101]) = false) (hw2 : (t.txt.toList == [102, 97, 108, 115, 101]) = false)
    (hno : (t.txt.toList == [40]) = false ∨ d = 30) :
    Calls Tryz.prog 160 #[.pointer (some ⟨c.rb, 0, none⟩)] w (TermPost w c (t :: ts) d pl (.no (if (t.txt.toList == [40]) = true then 6 else 2) t.pos)) := by
  obtain ⟨e0, he⟩ : ∃ e0 : Int, (if (t.txt.toList == [40]) = true then (6 : Int) else 2) = e0 := ⟨_, rfl⟩
  have he0 : ¬ e0 = 0 := by rw [← he]; split <;> decide
  have he0' : (e0 == 0) = false := by simpa using he0
  have HM : Hid (∀ W : World, Rd W c (t :: ts) d 0 pl → Calls Tryz.prog 199 #[.pointer (some ⟨c.rb, 0, none⟩), .string ⟨#[40]⟩] W fun en w' => en = .returned (.tuple #[]) ∧ Ext (· = c.rb) W w' ∧ Rd w' c (t :: ts) d e0 t.pos) := by
    intro W hW
    rw [← he]
    cases hq : (t.txt.toList == [40]) with
    | true =>
      rcases hno with hno | hno
      · rw [hq] at hno; exact absurd hno (by decide)
      · subst hno; exact rd_must_deep hW hq
    | false => exact rd_must_no _ hW (by rw [one_byte]; exact hq)
  rw [he]
  have H := hide h
  have hrb := h.rbs
  clear h hno he
  go_enter Tryz.func160, Tryz.ntmps160
  go_wp2_with (go_at_call 161; refine (rd_next H.out).mono ?_; rintro e w' ⟨rfl, m, rfl⟩)
  have hx0 : Ext (fun _ => False) w ((w.drewN m).alloc (Obj.cells #[.string t.txt, .slice none 0 0, .int .i64 0, .bool false, .string t.txt] 235)) := ((Ext.refl _ w).drewN m).alloc _
  refine (HM.out _ (H.out.ext hx0 (fun f => f) (fun f => f) (fun f => f))).mono ?_
  rintro e w1 ⟨rfl, hx, hr⟩
  have kb : w1.heap[w.heap.size]? = some (.cells #[.string t.txt, .slice none 0 0, .int .i64 0, .bool false, .string t.txt] 235) :=
    (hx.block _ (block_lt (heap_alloc_new (w.drewN m) _)) (by show ¬ w.heap.size = c.rb; omega)).trans (heap_alloc_new (w.drewN m) _)
  have c4 := hr.c4
  have HR := hide hr
  clear hr
  go_wp2_with fail
  go_ret
  have hxa : Ext (· = c.rb) w w1 := (hx0.mono (fun _ _ f => f.elim)).trans hx
  have ht := H.out.ts t (List.mem_cons_self ..)
  exact ⟨w.heap.size, _, _, _, _, t.txt, rfl, Nat.le_refl _, hxa, kb, by simp; omega, ⟨he0, _, _, HR.out⟩, fun nd ts' e => absurd e (by simp)⟩

end Go.Proofs.YtegbdaffhpiacaaGreatDoor

/- An atom under way: what lies in memory behind its two terms. -/
namespace Go.Proofs.YtegbdaffhpiacaaGreatDoor
open Go.RowKit Ar

theorem alloc_new_drew {w : World} (o : Obj) : (w.alloc o).drew.heap[w.heap.size]? = some o := heap_alloc_new w o

/-- The pair of terms is a row of its own. -/
theorem own_pair {W : World} {g : Nat} {x y : Value} (h : W.heap[g]? = some (.cells #[x, y] 172)) : W.ownsRow 0 172 1 (.slice (some ⟨g, 0, none⟩) 2 2) 2 [x, y] :=
  ⟨rfl, Or.inr ⟨g, 2, #[x, y], rfl, Nat.zero_le _, h, Nat.le_refl _, by decide, rfl, rfl⟩⟩

/-- An atom that was read whole: its tree. -/
theorem atom_tree {w W : World} {u : ByteArray} {by' : Int} {nda ndb : Nd} {rest : List Nd} {ba bb g : Nat} {F : ByteArray}
    (hg : w.heap.size < g) (hb : rby 2 0 (nda :: ndb :: rest) = by')
    (kx : W.heap[w.heap.size]? = some (.cells #[.string u, .slice (some ⟨g, 0, none⟩) 2 2, .int .i64 by', .bool false, .string F] 235)) (kg : W.heap[g]? = some (.cells #[.pointer (some ⟨ba, 0, none⟩), .pointer (some ⟨bb, 0, none⟩)] 172))
    (hf : F.toList = formOf (.mk 2 u 0 (nda :: ndb :: rest))) (ha : RN W (w.heap.size ≤ ·) ba nda) (hbb : RN W (w.heap.size ≤ ·) bb ndb) : RN W (w.heap.size ≤ ·) w.heap.size (.mk 2 u 0 (nda :: ndb :: rest)) := by
  refine RN.mk (pv := .slice (some ⟨g, 0, none⟩) 2 2) (form := F) (kids := [ba, bb]) ?_ (Nat.le_refl _) hf ?_ ?_ ?_
  · rw [hb]; exact kx
  · exact own_pair kg
  · intro k hk
    simp [Value.ownBlock] at hk
    omega
  · intro i q p hq hp
    match i, hq, hp with
    | 0, hq, hp => simp at hq; subst hq; simp [rps] at hp; subst hp; exact ha
    | 1, hq, hp => simp at hq; subst hq; simp [rps] at hp; subst hp; exact hbb

/-- The number of a le. -/
theorem sd_number {w : World} {c : Ctx} {z : Tk} {zs : List Tk} {D pl : Int} (h : Rd w c (z :: zs) D 0 pl) :
    Calls Tryz.prog 196 #[.pointer (some ⟨c.rb, 0, none⟩)] w fun en w' => ∃ v : Int, en = .returned (.int .i64 v) ∧ Ext (· = c.rb) w w' ∧ Sd w' c D pl (Rs.un (rdNum 5 (z :: zs))) ∧
      (∀ nd ts', rdNum 5 (z :: zs) = .ok nd ts' → nd = .mk 5 ByteArray.empty v [] ∧ itoa v = z.txt.toList) := by
  cases hv : numOf z.txt.toList with
  | none =>
    have e : rdNum 5 (z :: zs) = .no 2 z.pos := by simp only [rdNum, hv]
    rw [e]
    refine (rd_number_no h hv).mono ?_
    rintro en w' ⟨rfl, hx, hr⟩
    exact ⟨0, rfl, hx, ⟨by decide, _, _, hr⟩, fun nd ts' e => absurd e (by simp)⟩
  | some v =>
    by_cases hg : v < -1000 ∨ 1000 < v
    · have e : rdNum 5 (z :: zs) = .no 5 z.pos := by simp only [rdNum, hv, if_pos hg]
      rw [e]
      refine (rd_number_great h hv hg).mono ?_
      rintro en w' ⟨rfl, hx, hr⟩
      exact ⟨v, rfl, hx, ⟨by decide, _, _, hr⟩, fun nd ts' e => absurd e (by simp)⟩
    · have e : rdNum 5 (z :: zs) = .ok (.mk 5 ByteArray.empty v []) zs := by simp only [rdNum, hv, if_neg hg]
      rw [e]
      refine (rd_number_ok h hv (by omega) (by omega)).mono ?_
      rintro en w' ⟨rfl, hx, hr⟩
      exact ⟨v, rfl, hx, hr, fun nd ts' e => by injection e with e1 e2; exact ⟨e1.symm, num_text hv (by omega) (by omega)⟩⟩

end Go.Proofs.YtegbdaffhpiacaaGreatDoor

/- The reader of the document's own answer: atoms. -/
namespace Go.Proofs.YtegbdaffhpiacaaGreatDoor
open Go.RowKit Ar

set_option maxRecDepth 100000 in
set_option maxHeartbeats 1000000 in
theorem form_eq {w : World} {c : Ctx} {t u : Tk} {us0 : List Tk} {d pl : Int} {n : Nat} (h : Rd w c (t :: u :: us0) d 0 pl) (ho : (t.txt.toList == [40]) = true) (hd : d < 30) (hu : u.txt.toList = [61]) (hn : us0.length < n) :
    Calls Tryz.prog 160 #[.pointer (some ⟨c.rb, 0, none⟩)] w (TermPost w c (t :: u :: us0) d pl (rdCloses 2 2 u.txt (rdRow [rdTerm c.N n (d + 1), rdTerm c.N n (d + 1)] us0))) := by
  have a1 : (t.txt.toList == [116, 114, 117, 101]) = false := by rw [beq_iff_eq.1 ho]; decide
  have a2 : (t.txt.toList == [102, 97, 108, 115, 101]) = false := by rw [beq_iff_eq.1 ho]; decide
  have b0 : (u.txt.toList == [61]) = true := by rw [hu]; decide
  have b9 : (u.txt.toList == [108, 101]) = false := by rw [hu]; decide
  have q1 : (u.txt.toList == [40]) = false := by rw [hu]; decide
  have q2 : (u.txt.toList == [41]) = false := by rw [hu]; decide
  have q3 : u.txt.toList.isEmpty = false := by rw [hu]; decide
  have H := hide h
  have hrb := h.rbs
  have htb := h.tbs
  have hnb := h.nbs
  have hd0 := h.dlo
  have HTS := hide h.ts
  have hsu : u.txt.size ≤ 600 := h.ts u (by simp)
  have hL1 : us0.length ≤ 599 := by have := h.len; simp at this; omega
  clear h hu
  go_enter Tryz.func160, Tryz.ntmps160
  go_wp2_with (go_at_call 161; refine (rd_next H.out).mono ?_; rintro e w' ⟨rfl, m, rfl⟩)
  have hx0 : Ext (fun _ => False) w ((w.drewN m).alloc (Obj.cells #[.string t.txt, .slice none 0 0, .int .i64 0, .bool false, .string t.txt] 235)) := ((Ext.refl _ w).drewN m).alloc _
  refine (rd_must_open (H.out.ext hx0 (fun f => f) (fun f => f) (fun f => f)) ho hd).mono ?_
  rintro e w1 ⟨rfl, hx1, hr1⟩
  have kb1 : w1.heap[w.heap.size]? = some (.cells #[.string t.txt, .slice none 0 0, .int .i64 0, .bool false, .string t.txt] 235) :=
    (hx1.block _ (block_lt (heap_alloc_new (w.drewN m) _)) (by show ¬ w.heap.size = c.rb; omega)).trans (heap_alloc_new (w.drewN m) _)
  have k10 := cell_of_block kb1 0
  have f10 := frozen_of_block kb1 0
  have k14 := cell_of_block kb1 4
  have f14 := frozen_of_block kb1 4
  have c4 := hr1.c4
  have HX1 : Hid (Ext (· = c.rb) w w1) := (hx0.mono (fun _ _ f => f.elim)).trans hx1
  have KB1 := hide kb1
  have HR1 := hide hr1
  clear hx0 hx1 kb1 hr1
  go_wp2_with (go_at_call 161; refine (rd_next HR1.out).mono ?_; rintro e w' ⟨rfl, m1, rfl⟩)
  have hxs : Ext (· = w.heap.size) w1 (((w1.drewN m1).setCell ⟨w.heap.size, 0, none⟩ (.string u.txt)).setCell ⟨w.heap.size, 4, none⟩ (.string (⟨#[40]⟩ ++ u.txt))) := (((Ext.refl (· = w.heap.size) w1).drewN m1).setCell (p := ⟨w.heap.size, 0, none⟩) (fun _ => rfl) _).setCell (p := ⟨w.heap.size, 4, none⟩) (fun _ => rfl) _
  refine (rd_take_word (HR1.out.ext hxs (by show ¬ c.rb = w.heap.size; omega) (by show ¬ c.tb = w.heap.size; omega) (by show ¬ c.nb = w.heap.size; omega)) q1 q2 q3).mono ?_
  rintro e w2 ⟨rfl, hx2, hr2⟩
  have kbs : (((w1.drewN m1).setCell ⟨w.heap.size, 0, none⟩ (.string u.txt)).setCell ⟨w.heap.size, 4, none⟩ (.string (⟨#[40]⟩ ++ u.txt))).heap[w.heap.size]? = some (.cells #[.string u.txt, .slice none 0 0, .int .i64 0, .bool false, .string (⟨#[40]⟩ ++ u.txt)] 235) := block_setCell (block_setCell (w := w1.drewN m1) KB1.out 0 _) 4 _
  have kb2 : w2.heap[w.heap.size]? = some (.cells #[.string u.txt, .slice none 0 0, .int .i64 0, .bool false, .string (⟨#[40]⟩ ++ u.txt)] 235) :=
    (hx2.block _ (block_lt kbs) (by show ¬ w.heap.size = c.rb; omega)).trans kbs
  have HX2 : Hid (Ext (· = c.rb) w w2) := (HX1.out.trans' hxs (fun i hi e => by omega)).trans hx2
  have KB2 := hide kb2
  have HR2 := hide hr2
  have HF0 : Hid ((ByteArray.mk #[40] ++ u.txt).toList = 40 :: (u.txt.toList ++ [])) := by
    show _ = _
    rw [toList_app, one_byte]; simp
  clear k10 f10 k14 f14 c4 hxs hx2 hr2 kbs kb2 a1 a2
  go_wp2_with fail
  refine (term_any c n _ us0 (d + 1) pl (by omega) HR2.out).mono ?_
  rintro e wa ⟨ba, x0, x1, x2, x3, fa, rfl, hba, hxa, kba, hfa, hsa, hra⟩
  have kxa : wa.heap[w.heap.size]? = some (.cells #[.string u.txt, .slice none 0 0, .int .i64 0, .bool false, .string (⟨#[40]⟩ ++ u.txt)] 235) := (hxa.block _ (block_lt KB2.out) (by show ¬ w.heap.size = c.rb; omega)).trans KB2.out
  have HXA : Hid (Ext (· = c.rb) w wa) := HX2.out.trans hxa
  have KXA := hide kxa
  have KBA := hide kba
  have HBA : Hid (w.heap.size < ba) := by have := block_lt KB2.out; show _ < _; omega
  have HRA := hide hra
  have HFA := hide hfa
  clear kxa kba hba hxa hra hfa
  cases hrt : rdTerm c.N n (d + 1) us0 with
  | no e p =>
    rw [hrt] at hsa
    obtain ⟨he0, ts', d', hr⟩ := hsa
    have he0' : (e == 0) = false := by simpa using he0
    have c4 := hr.c4
    have HR := hide hr
    have hre : rdCloses 2 2 u.txt (rdRow [rdTerm c.N n (d + 1), rdTerm c.N n (d + 1)] us0) = .no e p := by
      simp only [rdRow, hrt]; rfl
    have HRE := hide hre
    clear hr hre
    go_wp2_with fail
    go_ret
    rw [HRE.out]
    have g0 := size_of HF0.out
    have g1 := len_toList u.txt
    refine ⟨w.heap.size, _, _, _, _, _, rfl, Nat.le_refl _, HXA.out, KXA.out, by rw [g0]; simp; omega, ⟨he0, _, _, HR.out⟩, fun nd ts' e => absurd e (by simp)⟩
  | ok nda us1 =>
    rw [hrt] at hsa
    have hsa' : Rd wa c us1 (d + 1) 0 pl := hsa
    have hfits := term_fits c.N n (d + 1) us0 nda us1 (fun x hx => HTS.out x (List.mem_cons_of_mem _ (List.mem_cons_of_mem _ hx))) hrt
    have hrna := HRA.out nda us1 hrt
    have c4 := hsa'.c4
    have HSA := hide hsa'
    have HRT := hide hrt
    have HFITS := hide hfits
    have HRNA := hide hrna
    clear hsa hsa' hrt hfits hrna HRA
    go_wp2_with fail
    refine (term_any c n _ us1 (d + 1) pl (by have := HFITS.out.1; omega) HSA.out).mono ?_
    rintro e wb ⟨bb, y0, y1, y2, y3, fb, rfl, hbb, hxb, kbb, hfb, hsb, hrb2⟩
    have hsza := block_lt KBA.out
    have hszx := block_lt KXA.out
    have hszb := block_lt kbb
    have h2 := HBA.out
    have kxb := (hxb.block _ hszx (by show ¬ w.heap.size = c.rb; omega)).trans KXA.out
    have kab := (hxb.block _ hsza (by show ¬ ba = c.rb; omega)).trans KBA.out
    have hwab := hxb.size
    have m1' := cell_of_block kxb 1
    have m1f := frozen_of_block kxb 1
    have m0' := cell_of_block kxb 0
    have m4' := cell_of_block kxb 4
    have m4f := frozen_of_block kxb 4
    have n4 := cell_of_block kab 4
    have o4 := cell_of_block kbb 4
    have hbx1 : ¬ ba = w.heap.size := by omega
    have hbx2 : ¬ bb = w.heap.size := by omega
    have hx9 : w.heap.size < wb.heap.size := by omega
    have ha9 : ba < wb.heap.size := by omega
    have hfa2 : fa.size ≤ 400000 := by have := HFA.out; omega
    have hfb2 : fb.size ≤ 400000 := by have := hfb; have := HFITS.out.1; omega
    have HXB := hide hxb
    have KXB := hide kxb
    have KAB := hide kab
    have KBB := hide kbb
    have HFB := hide hfb
    have HSB := hide hsb
    have HRB := hide hrb2
    clear hxb kxb kab kbb hfb hsb hrb2 c4
    go_wp2_with fail
    go_region
    go_wp2_with fail
    obtain ⟨F, hF⟩ : ∃ F, (⟨#[40]⟩ ++ u.txt ++ ⟨#[32]⟩ ++ fa ++ ⟨#[32]⟩ ++ fb : ByteArray) = F := ⟨_, rfl⟩
    rw [hF]
    have HFF := hide hF
    obtain ⟨W4, hW4⟩ : ∃ W4, (((wb.setCell ⟨w.heap.size, 1, none⟩ (.slice (some ⟨wb.heap.size, 0, none⟩) 2 2)).setCell ⟨w.heap.size, 4, none⟩ (.string F)).alloc (Obj.cells #[.pointer (some ⟨ba, 0, none⟩), .pointer (some ⟨bb, 0, none⟩)] 172)).drew = W4 := ⟨_, rfl⟩
    have hsz4 : ((wb.setCell ⟨w.heap.size, 1, none⟩ (.slice (some ⟨wb.heap.size, 0, none⟩) 2 2)).setCell ⟨w.heap.size, 4, none⟩ (.string F)).heap.size = wb.heap.size := by simp [World.setCell]
    have hx4 : Ext (· = w.heap.size) wb W4 := by
      rw [← hW4]
      exact ((((Ext.refl (· = w.heap.size) wb).setCell (p := ⟨w.heap.size, 1, none⟩) (fun _ => rfl) _).setCell (p := ⟨w.heap.size, 4, none⟩) (fun _ => rfl) _).alloc _).drew
    have kx4 : W4.heap[w.heap.size]? = some (.cells #[.string u.txt, .slice (some ⟨wb.heap.size, 0, none⟩) 2 2, .int .i64 0, .bool false, .string F] 235) := by
      rw [← hW4]
      exact (Below.heap_alloc _ _ _ (by rw [hsz4]; exact hx9)).trans (block_setCell (block_setCell KXB.out 1 _) 4 _)
    have kg4 : W4.heap[wb.heap.size]? = some (.cells #[.pointer (some ⟨ba, 0, none⟩), .pointer (some ⟨bb, 0, none⟩)] 172) := by
      rw [← hW4]
      have h9 := alloc_new_drew (w := (wb.setCell ⟨w.heap.size, 1, none⟩ (.slice (some ⟨wb.heap.size, 0, none⟩) 2 2)).setCell ⟨w.heap.size, 4, none⟩ (.string F)) (Obj.cells #[.pointer (some ⟨ba, 0, none⟩), .pointer (some ⟨bb, 0, none⟩)] 172)
      rw [hsz4] at h9
      exact h9
    have HX4w : Hid (Ext (· = c.rb) w W4) := (HXA.out.trans HXB.out).trans' hx4 (fun i hi e => by omega)
    have hs4 := HSB.out.ext hx4 (by show ¬ c.rb = w.heap.size; omega) (by show ¬ c.tb = w.heap.size; omega) (by show ¬ c.nb = w.heap.size; omega)
    rw [hW4]
    have HX4 := hide hx4
    have KX4 := hide kx4
    have KG4 := hide kg4
    have x44 := cell_of_block kx4 4
    have x44f := frozen_of_block kx4 4
    have hFs : F.size = 1 + u.txt.size + 1 + fa.size + 1 + fb.size := by
      rw [← hF]; simp only [ByteArray.size_append']
      have g1 : (ByteArray.mk #[40]).size = 1 := rfl
      have g2 : (ByteArray.mk #[32]).size = 1 := rfl
      omega
    have hFi : F.size ≤ 2000000 := by omega
    have HFS : Hid (F.size + 3 ≤ 603 * (us0.length + 2)) := by
      show _ ≤ _
      have g1 := HFB.out
      have g2 := HFITS.out.1
      obtain ⟨z0, z1, z2, z3, fz, hz, hzf⟩ := HRNA.out.form
      have ez : fa = fz := by
        rw [KBA.out] at hz
        simp at hz
        exact hz.2.2.2.2
      have g3 := size_of hzf
      rw [← ez] at g3
      omega
    clear hF hW4 hx4 kx4 kg4 hsz4 m1' m1f m0' m4' m4f n4 o4 hFs
    cases hrt2 : rdTerm c.N n (d + 1) us1 with
    | no e p =>
      rw [hrt2] at hs4
      obtain ⟨he0, ts', d', hr⟩ := hs4
      have HR := hide hr
      have hre : rdCloses 2 2 u.txt (rdRow [rdTerm c.N n (d + 1), rdTerm c.N n (d + 1)] us0) = .no e p := by
        simp only [rdRow, HRT.out, hrt2]; rfl
      have HRE := hide hre
      clear hr hre
      refine (rd_must_dead _ HR.out he0).mono ?_
      rintro e w' ⟨rfl, m3, rfl⟩
      go_wp2_with fail
      go_ret
      rw [HRE.out]
      exact dead_end (w5 := W4.drewN m3) (HX4w.out.drewN _) hrb htb hnb KX4.out (HR.out.drewN _) he0 (by have := HFS.out; simp; omega)
    | ok ndb us2 =>
      rw [hrt2] at hs4
      have hs4' : Rd W4 c us2 (d + 1) 0 pl := hs4
      obtain ⟨v, vs, rfl⟩ := hs4'.head
      have HR := hide hs4'
      have hre : rdCloses 2 2 u.txt (rdRow [rdTerm c.N n (d + 1), rdTerm c.N n (d + 1)] us0) = rdShut 2 2 u.txt [nda, ndb] (v :: vs) := by
        simp only [rdRow, HRT.out, hrt2]; rfl
      have HRE := hide hre
      have hrnb := HRB.out ndb (v :: vs) hrt2
      have HRNB := hide hrnb
      clear hs4 hs4' hre hrt2 hrnb
      cases hq : (v.txt.toList == [41]) with
      | true =>
        refine (rd_must_close HR.out hq (by omega)).mono ?_
        rintro e w5 ⟨rfl, hx, hr⟩
        have k5 := (hx.block _ (block_lt KX4.out) (by show ¬ w.heap.size = c.rb; omega)).trans KX4.out
        have k54 := cell_of_block k5 4
        have f54 := frozen_of_block k5 4
        have K5 := hide k5
        have HX5 := hide hx
        have HR5 := hide hr
        clear k5 hx hr
        go_wp2_with fail
        go_ret
        have hxe : Ext (· = w.heap.size) w5 (w5.setCell ⟨w.heap.size, 4, none⟩ (.string (F ++ ⟨#[41]⟩))) := (Ext.refl (· = w.heap.size) w5).setCell (p := ⟨w.heap.size, 4, none⟩) (fun _ => rfl) _
        have kW := block_setCell K5.out 4 (.string (F ++ ⟨#[41]⟩))
        have hr := HR5.out.ext hxe (by show ¬ c.rb = w.heap.size; omega) (by show ¬ c.tb = w.heap.size; omega) (by show ¬ c.nb = w.heap.size; omega)
        rw [show d + 1 - 1 = d from by omega] at hr
        rw [HRE.out, rdShut, if_pos (by simpa using hq)]
        have g4 : (ByteArray.mk #[41]).size = 1 := rfl
        refine ⟨w.heap.size, _, _, _, _, _, rfl, Nat.le_refl _, (HX4w.out.trans HX5.out).trans' hxe (fun i hi e => by omega), kW, ?_, hr, ?_⟩
        · have := HFS.out
          simp only [ByteArray.size_append']; simp; omega
        · intro nd ts' e
          injection e with e1 e2
          subst e1
          have kg5 := (HX5.out.block _ (block_lt KG4.out) (by show ¬ wb.heap.size = c.rb; omega)).trans KG4.out
          have kgW := (hxe.block _ (block_lt kg5) (by show ¬ wb.heap.size = w.heap.size; omega)).trans kg5
          obtain ⟨z0, z1, z2, z3, fz, hz, hzf⟩ := HRNA.out.form
          have ez : fa = fz := by
            rw [KBA.out] at hz
            simp at hz
            exact hz.2.2.2.2
          obtain ⟨y0', y1', y2', y3', fy, hy, hyf⟩ := HRNB.out.form
          have ey : fb = fy := by
            rw [KBB.out] at hy
            simp at hy
            exact hy.2.2.2.2
          have up : ∀ q p, RN wb (w.heap.size < ·) q p → RN (w5.setCell ⟨w.heap.size, 4, none⟩ (.string (F ++ ⟨#[41]⟩))) (w.heap.size ≤ ·) q p := by
            intro q p h1
            have h2 := h1.ext HX4.out (fun k _ hk e => by omega)
            have h3 := h2.ext HX5.out (fun k _ hk e => by omega)
            have h4 := h3.ext hxe (fun k _ hk e => by omega)
            exact h4.mono (fun k _ hk => by omega)
          have h6 := block_lt KB2.out
          refine atom_tree (by' := 0) (g := wb.heap.size) (ba := ba) (bb := bb) (F := F ++ ByteArray.mk #[41]) hx9 rfl kW kgW ?_ ?_ ?_
          · rw [formOf, if_pos (Or.inr (Or.inl rfl)), tokOf, if_neg (by decide), toList_app, ← HFF.out, one_byte]
            simp only [toList_app, one_byte, formsOf, ez, ey, hzf, hyf]
            simp
          · exact up _ _ ((HRNA.out.ext HXB.out (fun k _ hk e => by omega)).mono (fun k _ hk => by omega))
          · exact up _ _ (HRNB.out.mono (fun k _ hk => by omega))
      | false =>
        have HQ : Hid ((v.txt.toList == (ByteArray.mk #[41]).toList) = false) := by
          show _ = _
          rw [one_byte]; exact hq
        refine (rd_must_no _ HR.out HQ.out).mono ?_
        rintro e w5 ⟨rfl, hx, hr⟩
        have k5 := (hx.block _ (block_lt KX4.out) (by show ¬ w.heap.size = c.rb; omega)).trans KX4.out
        have k54 := cell_of_block k5 4
        have f54 := frozen_of_block k5 4
        have K5 := hide k5
        have HX5 := hide hx
        have HR5 := hide hr
        clear k5 hx hr
        go_wp2_with fail
        go_ret
        have hre : rdCloses 2 2 u.txt (rdRow [rdTerm c.N n (d + 1), rdTerm c.N n (d + 1)] us0) = .no 2 v.pos := by
          rw [HRE.out, rdShut, if_neg (by simpa using hq)]
          split <;> rfl
        rw [hre]
        exact dead_end (HX4w.out.trans HX5.out) hrb htb hnb K5.out HR5.out (by decide) (by have := HFS.out; simp; omega)

end Go.Proofs.YtegbdaffhpiacaaGreatDoor
