/- The reader of the document's own answer: a term that is a number; Reading one part after the other: plain lemmas; A term in brackets under way: what a round of its loop leaves. -/
import Derived.Test.YtihpglkehkgioaaGreatDoorOwn06
import Derived.Test.YtihpglkehkgioaaGreatDoorOwn02
/- The reader of the document's own answer: a term that is a number. -/
namespace Go.Proofs.YtihpglkehkgioaaGreatDoor
open Go.RowKit Ar

def Rs.un {α : Type} : Rs α → Rs Unit
  | .ok _ ts => .ok () ts
  | .no e p => .no e p

/-- What reading a term or a formula leaves. -/
def TermPost (w : World) (c : Ctx) (ts : List Tk) (d pl : Int) (r : Rs Nd) (en : Ending) (w' : World) : Prop :=
  ∃ (b : Nat) (x0 x1 x2 x3 : Value) (f : ByteArray), en = .returned (.pointer (some ⟨b, 0, none⟩)) ∧ w.heap.size ≤ b ∧ Ext (· = c.rb) w w' ∧
    w'.heap[b]? = some (.cells #[x0, x1, x2, x3, .string f] 117) ∧ f.size + 1 ≤ 603 * ts.length ∧ Sd w' c d pl (Rs.un r) ∧ (∀ nd ts', r = .ok nd ts' → RN w' (w.heap.size ≤ ·) b nd)

set_option maxHeartbeats 400000 in
theorem term_num_ok {w : World} {c : Ctx} {t : Tk} {ts : List Tk} {d pl v : Int} (h : Rd w c (t :: ts) d 0 pl) (hv : numOf t.txt.toList = some v) (hg1 : -1000 ≤ v) (hg2 : v ≤ 1000) :
    Calls Tryz.prog 70 #[.pointer (some ⟨c.rb, 0, none⟩)] w (TermPost w c (t :: ts) d pl (.ok (.mk 4 ByteArray.empty v []) ts)) := by
  have hsm := h.small
  have H := hide h
  have HN := number_any t.txt
  have HV := hide hv
  rw [hv] at HN
  have HN' := hide HN
  clear h hv HN
  go_enter Tryz.func70, Tryz.ntmps70
  go_wp2_with first
    | (go_at_call 72; refine (rd_next H.out).mono ?_; rintro e w' ⟨rfl, m, rfl⟩)
    | (go_at_call 86; refine (HN'.out _ hsm).mono ?_; rintro e w' ⟨rfl, rfl⟩)
  have hrb := H.out.rbs
  have hx0 : Ext (fun _ => False) w ((w.drewN m).alloc (Obj.cells #[.string t.txt, .slice none 0 0, .int .i64 0, .bool true, .string t.txt] 117)) := ((Ext.refl _ w).drewN m).alloc _
  refine (rd_number_ok (H.out.ext hx0 (fun f => f) (fun f => f) (fun f => f)) HV.out hg1 hg2).mono ?_
  rintro e w1 ⟨rfl, hx, hr⟩
  have kb : w1.heap[w.heap.size]? = some (.cells #[.string t.txt, .slice none 0 0, .int .i64 0, .bool true, .string t.txt] 117) :=
    (hx.block _ (block_lt (heap_alloc_new (w.drewN m) _)) (by show ¬ w.heap.size = c.rb; omega)).trans (heap_alloc_new (w.drewN m) _)
  have k2 := cell_of_block kb 2
  have f2 := frozen_of_block kb 2
  go_wp2_with fail
  go_ret
  have hxa : Ext (· = c.rb) w w1 := (hx0.mono (fun _ _ f => f.elim)).trans hx
  have hxb : Ext (· = w.heap.size) w1 (w1.setCell ⟨w.heap.size, 2, none⟩ (.int .i64 v)) := (Ext.refl (· = w.heap.size) w1).setCell (p := ⟨w.heap.size, 2, none⟩) (fun _ => rfl) _
  have hbl := block_setCell kb 2 (.int .i64 v)
  have ht := H.out.ts t (List.mem_cons_self ..)
  refine ⟨w.heap.size, _, _, _, _, t.txt, rfl, Nat.le_refl _, hxa.trans' hxb (fun i hi e => by omega), hbl, by simp; omega, ?_, ?_⟩
  · exact hr.ext hxb (by show ¬ c.rb = w.heap.size; omega) (by have := H.out.tbs; show ¬ c.tb = w.heap.size; omega) (by have := H.out.nbs; show ¬ c.nb = w.heap.size; omega)
  · intro nd ts' e
    injection e with e1 e2
    subst e1
    have hw : rwd 4 ByteArray.empty v = t.txt := by
      apply bytes_ext
      rw [rwd, if_pos rfl, ByteArray.toList_eq]
      exact num_text HV.out hg1 hg2
    refine RN.mk (pv := .slice none 0 0) (form := t.txt) (kids := []) ?_ (Nat.le_refl _) ?_ (World.ownsRow_nil _ _ _ _) (fun g hg => absurd hg (by simp [Value.ownBlock])) (fun i c p h => absurd h (by simp))
    · rw [hw]; exact hbl
    · rw [formOf, if_neg (by simp), tokOf, if_pos (Or.inl rfl)]
      exact (num_text HV.out hg1 hg2).symm

set_option maxHeartbeats 400000 in
theorem term_num_great {w : World} {c : Ctx} {t : Tk} {ts : List Tk} {d pl v : Int} (h : Rd w c (t :: ts) d 0 pl) (hv : numOf t.txt.toList = some v) (hg : v < -1000 ∨ 1000 < v) :
    Calls Tryz.prog 70 #[.pointer (some ⟨c.rb, 0, none⟩)] w (TermPost w c (t :: ts) d pl (.no 5 t.pos)) := by
  have hsm := h.small
  have H := hide h
  have HN := number_any t.txt
  have HV := hide hv
  have HG := hide hg
  rw [hv] at HN
  have HN' := hide HN
  clear h hv HN hg
  go_enter Tryz.func70, Tryz.ntmps70
  go_wp2_with first
    | (go_at_call 72; refine (rd_next H.out).mono ?_; rintro e w' ⟨rfl, m, rfl⟩)
    | (go_at_call 86; refine (HN'.out _ hsm).mono ?_; rintro e w' ⟨rfl, rfl⟩)
  have hrb := H.out.rbs
  have hx0 : Ext (fun _ => False) w ((w.drewN m).alloc (Obj.cells #[.string t.txt, .slice none 0 0, .int .i64 0, .bool true, .string t.txt] 117)) := ((Ext.refl _ w).drewN m).alloc _
  refine (rd_number_great (H.out.ext hx0 (fun f => f) (fun f => f) (fun f => f)) HV.out HG.out).mono ?_
  rintro e w1 ⟨rfl, hx, hr⟩
  have kb : w1.heap[w.heap.size]? = some (.cells #[.string t.txt, .slice none 0 0, .int .i64 0, .bool true, .string t.txt] 117) :=
    (hx.block _ (block_lt (heap_alloc_new (w.drewN m) _)) (by show ¬ w.heap.size = c.rb; omega)).trans (heap_alloc_new (w.drewN m) _)
  have k2 := cell_of_block kb 2
  have f2 := frozen_of_block kb 2
  go_wp2_with fail
  go_ret
  have hxa : Ext (· = c.rb) w w1 := (hx0.mono (fun _ _ f => f.elim)).trans hx
  have hxb : Ext (· = w.heap.size) w1 (w1.setCell ⟨w.heap.size, 2, none⟩ (.int .i64 v)) := (Ext.refl (· = w.heap.size) w1).setCell (p := ⟨w.heap.size, 2, none⟩) (fun _ => rfl) _
  have hbl := block_setCell kb 2 (.int .i64 v)
  have ht := H.out.ts t (List.mem_cons_self ..)
  refine ⟨w.heap.size, _, _, _, _, t.txt, rfl, Nat.le_refl _, hxa.trans' hxb (fun i hi e => by omega), hbl, by simp; omega, ⟨by decide, t :: ts, d, ?_⟩, fun nd ts' e => absurd e (by simp)⟩
  exact hr.ext hxb (by show ¬ c.rb = w.heap.size; omega) (by have := H.out.tbs; show ¬ c.tb = w.heap.size; omega) (by have := H.out.nbs; show ¬ c.nb = w.heap.size; omega)

/-- What a term that is a name by itself gives. -/
def nameRes (N : List Nm) (t : Tk) (ts : List Tk) : Rs Nd :=
  if nameErr N false t.txt.toList = 0 then .ok (.mk 3 t.txt 0 []) ts else .no (nameErr N false t.txt.toList) t.pos

set_option maxHeartbeats 400000 in
theorem term_name {w : World} {c : Ctx} {t : Tk} {ts : List Tk} {d pl : Int} (h : Rd w c (t :: ts) d 0 pl) (hv : numOf t.txt.toList = none) (ho : (t.txt.toList == [40]) = false) :
    Calls Tryz.prog 70 #[.pointer (some ⟨c.rb, 0, none⟩)] w (TermPost w c (t :: ts) d pl (nameRes c.N t ts)) := by
  have hsm := h.small
  have H := hide h
  have HN := number_any t.txt
  rw [hv] at HN
  have HN' := hide HN
  clear h hv HN
  go_enter Tryz.func70, Tryz.ntmps70
  go_wp2_with first
    | (go_at_call 72; refine (rd_next H.out).mono ?_; rintro e w' ⟨rfl, m, rfl⟩)
    | (go_at_call 86; refine (HN'.out _ hsm).mono ?_; rintro e w' ⟨rfl, rfl⟩)
  have hrb := H.out.rbs
  have hx0 : Ext (fun _ => False) w ((w.drewN m).alloc (Obj.cells #[.string t.txt, .slice none 0 0, .int .i64 0, .bool true, .string t.txt] 117)) := ((Ext.refl _ w).drewN m).alloc _
  refine (sd_name (r := .ok () (t :: ts)) false (H.out.ext hx0 (fun f => f) (fun f => f) (fun f => f))).mono ?_
  rintro e w1 ⟨k, rfl, hx, hr, _⟩
  have kb : w1.heap[w.heap.size]? = some (.cells #[.string t.txt, .slice none 0 0, .int .i64 0, .bool true, .string t.txt] 117) :=
    (hx.block _ (block_lt (heap_alloc_new (w.drewN m) _)) (by show ¬ w.heap.size = c.rb; omega)).trans (heap_alloc_new (w.drewN m) _)
  go_wp2_with fail
  go_ret
  have hxa : Ext (· = c.rb) w w1 := (hx0.mono (fun _ _ f => f.elim)).trans hx
  have ht := H.out.ts t (List.mem_cons_self ..)
  have hu : Rs.un (nameRes c.N t ts) = nmStep c.N false (.ok () (t :: ts)) := by
    simp only [nameRes, nmStep]
    split <;> rfl
  refine ⟨w.heap.size, _, _, _, _, t.txt, rfl, Nat.le_refl _, hxa, kb, by simp; omega, ?_, ?_⟩
  · rw [hu]; exact hr
  · intro nd ts' e
    unfold nameRes at e
    split at e
    · injection e with e1 e2
      subst e1
      refine RN.mk (pv := .slice none 0 0) (form := t.txt) (kids := []) kb (Nat.le_refl _) ?_ (World.ownsRow_nil _ _ _ _) (fun g hg => absurd hg (by simp [Value.ownBlock])) (fun i c p h => absurd h (by simp))
      rw [formOf, if_neg (by simp), tokOf, if_neg (by decide)]
    · exact absurd e (by simp)

end Go.Proofs.YtihpglkehkgioaaGreatDoor

/- Reading one part after the other: plain lemmas. -/
namespace Go.Proofs.YtihpglkehkgioaaGreatDoor
namespace Ar

theorem row_app (f1 f2 : List (List Tk → Rs Nd)) : ∀ ts, rdRow (f1 ++ f2) ts = match rdRow f1 ts with | .no e p => .no e p | .ok as us => match rdRow f2 us with | .no e p => .no e p | .ok bs vs => .ok (as ++ bs) vs := by
  induction f1 with
  | nil =>
    intro ts
    simp only [List.nil_append, rdRow]
    cases rdRow f2 ts <;> simp
  | cons f fs ih =>
    intro ts
    simp only [List.cons_append, rdRow]
    cases f ts with
    | no e p => simp
    | ok a us =>
      simp only [ih us]
      cases rdRow fs us with
      | no e p => simp
      | ok as vs =>
        simp only
        cases rdRow f2 vs <;> simp

theorem row_len (fs : List (List Tk → Rs Nd)) : ∀ ts ps ts', rdRow fs ts = .ok ps ts' → ps.length = fs.length := by
  induction fs with
  | nil => intro ts ps ts' e; simp only [rdRow, Rs.ok.injEq] at e; rw [← e.1]; rfl
  | cons f fs ih =>
    intro ts ps ts' e
    unfold rdRow at e
    split at e
    · exact absurd e (by simp)
    · split at e
      · exact absurd e (by simp)
      · rename_i as vs hr
        simp only [Rs.ok.injEq] at e
        rw [← e.1, List.length_cons, List.length_cons, ih _ _ _ hr]

theorem row_snoc_ok {f : List Tk → Rs Nd} {j : Nat} {us0 us us' : List Tk} {ps : List Nd} {p : Nd} (h : rdRow (List.replicate j f) us0 = .ok ps us) (hf : f us = .ok p us') : rdRow (List.replicate (j + 1) f) us0 = .ok (ps ++ [p]) us' := by
  rw [List.replicate_succ', row_app, h]
  simp only [rdRow, hf]

theorem row_snoc_no {f : List Tk → Rs Nd} {j k : Nat} {us0 us : List Tk} {ps : List Nd} {e : Int} {p : Nat} (h : rdRow (List.replicate j f) us0 = .ok ps us) (hf : f us = .no e p) (hk : j < k) : rdRow (List.replicate k f) us0 = .no e p := by
  obtain ⟨m, rfl⟩ : ∃ m, k = j + (m + 1) := ⟨k - j - 1, by omega⟩
  rw [← List.replicate_append_replicate, row_app, h]
  simp only [List.replicate_succ, rdRow, hf]

end Ar
end Go.Proofs.YtihpglkehkgioaaGreatDoor

/- A term in brackets under way: what a round of its loop leaves. -/
namespace Go.Proofs.YtihpglkehkgioaaGreatDoor
open Go.RowKit Ar

theorem size_of {f : ByteArray} {l : List UInt8} (h : f.toList = l) : f.size = l.length := by rw [← len_toList, h]

theorem toList_app (a b : ByteArray) : (a ++ b).toList = a.toList ++ b.toList := by
  rw [ByteArray.toList_eq, ByteArray.toList_eq, ByteArray.toList_eq, ByteArray.data_append, Array.toList_append]

/-- j parts were read. -/
def TLive (w : World) (c : Ctx) (D pl : Int) (F : List Tk → Rs Nd) (hd : List UInt8) (us0 : List Tk) (wr : World) (j : Nat) (pv : Value) (f : ByteArray) (us : List Tk) (ps : List Nd) (kids : List Nat) : Prop :=
  rdRow (List.replicate j F) us0 = .ok ps us ∧ Rd wr c us D 0 pl ∧ f.toList = hd ++ formsOf ps ∧ wr.ownsRow 0 90 1 pv j (kids.map kp) ∧ (∀ g, pv.ownBlock = some g → w.heap.size < g) ∧
    ∀ (i b : Nat) (p : Nd), kids[i]? = some b → ps[i]? = some p → RN wr (fun q => w.heap.size < q ∧ pv.ownBlock ≠ some q) b p

/-- A part was read and laid behind the others: the world behind it. -/
theorem part_step {w : World} {c : Ctx} {D pl : Int} {hd : List UInt8} {wr wc wt wa : World} {j : Nat} {pv v' : Value} {f f' : ByteArray} {ps : List Nd} {kids : List Nat} {b : Nat} {x0 x1 x2 x3 y0 y2 y3 : Value} {r : Rs Nd}
    (hE : Ext (· = c.rb) w wr) (hrb : c.rb < w.heap.size) (htb : c.tb < w.heap.size) (hnb : c.nb < w.heap.size)
    (hown : wr.ownsRow 0 90 1 pv j (kids.map kp)) (hpv : ∀ g, pv.ownBlock = some g → w.heap.size < g)
    (hkids : ∀ (i b : Nat) (p : Nd), kids[i]? = some b → ps[i]? = some p → RN wr (fun q => w.heap.size < q ∧ pv.ownBlock ≠ some q) b p)
    (hlen : ps.length = j) (hf : f.toList = hd ++ formsOf ps)
    (kb : wr.heap[w.heap.size]? = some (.cells #[y0, pv, y2, y3, .string f] 117))
    (hc : Ext (fun _ => False) wr wc)
    (hb : wc.heap.size ≤ b) (hx : Ext (· = c.rb) wc wt) (bb : wt.heap[b]? = some (.cells #[x0, x1, x2, x3, .string f'] 117)) (hs : Sd wt c D pl (Rs.un r)) (hr : ∀ nd ts', r = .ok nd ts' → RN wt (wc.heap.size ≤ ·) b nd)
    (O : Obj) (hown' : wa.ownsRow 0 90 1 v' (j + 1) (kids.map kp ++ [kp b])) (hg : (wt.alloc O).grownBy wa pv.ownBlock) (hat : v'.ownBlock = pv.ownBlock ∨ v'.ownBlock = some (wt.heap.size + 1)) :
    wa.heap[w.heap.size]? = some (.cells #[y0, pv, y2, y3, .string f] 117) ∧ wa.heap[b]? = some (.cells #[x0, x1, x2, x3, .string f'] 117) ∧ ¬ b = w.heap.size ∧ (∃ g cap, v' = .slice (some ⟨g, 0, none⟩) (j + 1) cap ∧ w.heap.size < g ∧ ¬ g = b) ∧
    ∀ (W : World), Ext (· = w.heap.size) wa W → W.heap[w.heap.size]? = some (.cells #[y0, v', y2, y3, .string (f ++ ⟨#[32]⟩ ++ f')] 117) →
      Ext (· = c.rb) w W ∧ Sd W c D pl (Rs.un r) ∧ (∀ g, v'.ownBlock = some g → w.heap.size < g) ∧ W.ownsRow 0 90 1 v' (j + 1) ((kids ++ [b]).map kp) ∧
      (∀ nd ts', r = .ok nd ts' → (f ++ ⟨#[32]⟩ ++ f').toList = hd ++ formsOf (ps ++ [nd]) ∧ ∀ (i q : Nat) (p : Nd), (kids ++ [b])[i]? = some q → (ps ++ [nd])[i]? = some p → RN W (fun q => w.heap.size < q ∧ v'.ownBlock ≠ some q) q p) := by
  have sz1 := hE.size
  have sz2 := hc.size
  have sz3 := hx.size
  have kx : w.heap.size < wr.heap.size := block_lt kb
  have hpl : ∀ g, pv.ownBlock = some g → g < wr.heap.size := fun g hg => (hown.lt g hg).2
  have hbt : b < wt.heap.size := block_lt bb
  have hxt : Ext (· = c.rb) wr wt := (hc.mono (fun _ _ f => f.elim)).trans hx
  have hxa : Ext (fun k => pv.ownBlock = some k) wt wa := ((Ext.refl (fun k => pv.ownBlock = some k) wt).alloc O).grown hg (fun k hk _ => hk)
  have kt : wt.heap[w.heap.size]? = some (.cells #[y0, pv, y2, y3, .string f] 117) := (hxt.block _ kx (by show ¬ w.heap.size = c.rb; omega)).trans kb
  have nx : ¬ pv.ownBlock = some w.heap.size := fun e => by have := hpv _ e; omega
  have nbk : ¬ pv.ownBlock = some b := fun e => by have := hpl _ e; omega
  have ka : wa.heap[w.heap.size]? = some (.cells #[y0, pv, y2, y3, .string f] 117) := (hxa.block _ (by omega) nx).trans kt
  have kab : wa.heap[b]? = some (.cells #[x0, x1, x2, x3, .string f'] 117) := (hxa.block _ hbt nbk).trans bb
  have hv'g : ∀ g, v'.ownBlock = some g → w.heap.size < g ∧ ¬ g = b := by
    intro g hg'
    rcases hat with e | e
    · rw [e] at hg'
      exact ⟨hpv g hg', fun e2 => nbk (by rw [hg', e2])⟩
    · rw [e] at hg'
      injection hg' with e2
      omega
  refine ⟨ka, kab, by omega, ?_, ?_⟩
  · rcases hown'.2 with ⟨_, e⟩ | ⟨g, cap, cur, hv, _⟩
    · exact absurd e (by omega)
    · have := hv'g g (by rw [hv]; rfl)
      exact ⟨g, cap, hv, this.1, this.2⟩
  · intro W hW kW
    have h1 : Ext (· = c.rb) w wa := (hE.trans hxt).trans' hxa (fun i hi e => by have := hpv i e; omega)
    have h2 : Ext (· = c.rb) w W := h1.trans' hW (fun i hi e => by omega)
    have szt := hs.some
    have hSt : Sd wa c D pl (Rs.un r) := hs.ext hxa (fun e => by have := hpv _ e; omega) (fun e => by have := hpv _ e; omega) (fun e => by have := hpv _ e; omega)
    have hSW : Sd W c D pl (Rs.un r) := hSt.ext hW (by show ¬ c.rb = w.heap.size; omega) (by show ¬ c.tb = w.heap.size; omega) (by show ¬ c.nb = w.heap.size; omega)
    refine ⟨h2, hSW, fun g hg' => (hv'g g hg').1, ?_, ?_⟩
    · rw [List.map_append]
      exact own_ext hown' hW (fun k hk e => by have := hv'g k hk; omega)
    · intro nd ts' e
      have hn := hr nd ts' e
      obtain ⟨z0, z1, z2, z3, fz, hz, hzf⟩ := hn.form
      have ez : f' = fz := by
        rw [bb] at hz
        simp at hz
        exact hz.2.2.2.2
      refine ⟨?_, ?_⟩
      · rw [toList_app, toList_app, formsOf_snoc, hf, ez, hzf]
        have : (ByteArray.mk #[32]).toList = [32] := by rw [ByteArray.toList_eq]
        rw [this]
        simp
      · have hkl : kids.length = j := by have := hown.1; simp at this; exact this
        have up : ∀ (q : Nat) (p : Nd), RN wt (fun q => w.heap.size < q ∧ pv.ownBlock ≠ some q ∧ v'.ownBlock ≠ some q) q p → RN W (fun q => w.heap.size < q ∧ v'.ownBlock ≠ some q) q p := by
          intro q p h4
          have h5 : RN wa (fun q => w.heap.size < q ∧ pv.ownBlock ≠ some q ∧ v'.ownBlock ≠ some q) q p := h4.ext hxa (fun k _ hk e => hk.2.1 e)
          have h6 : RN W (fun q => w.heap.size < q ∧ pv.ownBlock ≠ some q ∧ v'.ownBlock ≠ some q) q p := h5.ext hW (fun k _ hk e => by have := hk.1; omega)
          exact h6.mono (fun k _ hk => ⟨hk.1, hk.2.2⟩)
        intro i q p hq hp
        by_cases hi : i < j
        · rw [List.getElem?_append_left (by omega)] at hq hp
          have h3 := hkids i q p hq hp
          have h4 : RN wt (fun q => w.heap.size < q ∧ pv.ownBlock ≠ some q) q p := h3.ext hxt (fun k _ hk e => by have := hk.1; omega)
          refine up q p (h4.mono (fun k hk hD => ⟨hD.1, hD.2, ?_⟩))
          intro e
          rcases hat with e2 | e2
          · exact hD.2 (e2.symm.trans e)
          · rw [e2] at e; injection e with e3; omega
        · have hij : i = j := by
            have := List.getElem?_eq_some_iff.1 hq
            obtain ⟨h1, _⟩ := this
            simp at h1
            omega
          subst hij
          rw [List.getElem?_append_right (by omega)] at hq hp
          simp [hkl] at hq
          simp [hlen] at hp
          subst hq
          subst hp
          refine up _ _ (hn.mono (fun k hk hD => ⟨by omega, ?_, ?_⟩))
          · intro e; have := hpl k e; omega
          · intro e
            rcases hat with e2 | e2
            · have := hpl k (e2.symm.trans e); omega
            · rw [e2] at e; injection e with e3; omega

end Go.Proofs.YtihpglkehkgioaaGreatDoor
