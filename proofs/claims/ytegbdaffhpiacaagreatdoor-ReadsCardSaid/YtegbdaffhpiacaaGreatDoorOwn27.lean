/- Reads: out of the walk to the row, and to its card. -/
import Derived.Test.YtegbdaffhpiacaaGreatDoorOwn26
import Derived.Test.YtegbdaffhpiacaaGreatDoorTie
import Derived.Test.YtegbdaffhpiacaaGreatDoorCards
import Derived.Lay
import Derived.Handed
import Derived.MakeChecks
import Derived.SevenTiedAt
namespace Go.Proofs.YtegbdaffhpiacaaGreatDoor
open Go.ChangeShapes Go.WideShapes Go.ChangeAt Go.WideMaps Go.WideElems Go.RowKit Go.Deep Ar

theorem own : ownKnob Tryz.prog.godebug = none := by kernel_rfl

/-- A slice of steps that came in is a script. -/
theorem script_in {W : World} {H : Type} {enc : TypeId × Value → H} {v : Value} {d : DataW H} {p : List MemPlace} (hv : ∃ a l c, v = .slice a l c)
    (h : DataW.Trod enc Tryz.prog W 0 (fun _ => true) true 22 v d p) : ∃ (sa : Option Addr) (n cap : Nat), v = .slice sa n cap ∧ n ≤ maxLen ∧ Script W sa n := by
  obtain ⟨sa, n, cap, rfl⟩ := hv
  obtain ⟨hn, hel⟩ := slice4_of Tryz.underlying22 cOp h
  refine ⟨sa, n, cap, rfl, hn, fun i hi => ?_⟩
  obtain ⟨a, cs, q, y, rfl, hsp, hlt, hc, ht⟩ := hel i hi
  obtain ⟨k, on, s, c, h1, h2, h3, c0, c1, c2, c3⟩ := op_at hc ht hsp
  obtain ⟨b, off, sp⟩ := a
  simp only at hsp
  subst hsp
  exact ⟨b, off, k, on, s, c, rfl, hlt, h1, h2, h3, c0, c1, c2, c3⟩

theorem Ext.toBelow {w w' : World} (h : Ext (fun _ => False) w w') : Below w.heap.size w w' := ⟨h.os, h.tape, h.output, h.size, fun k hk => h.block k hk (fun f => f)⟩

def Walked (f : Nat) : Prop := ∀ (W : World) (sa : Option Addr) (n cap : Nat), n ≤ maxLen → Script W sa n → HdLaid W → TenLaid W →
  Calls Tryz.prog f #[.slice sa n cap] W fun e w' => e = .returned (.bool true) ∧ Ext (fun _ => False) W w'

set_option maxRecDepth 100000 in
theorem reads_lifted (walk : Walked 3) (os : Os) (started : os.Started) (H : Type) (enc : TypeId × Value → H) :
    ReturnsInHanded {} Tryz.checked os 3 .any (fun w args => (Rows.readsSpec.pre enc Tryz.prog Tryz.f3 [] false w args ∧ laidMetH Tryz.prog Rows.readsRow.laid w) ∧ sizedMet enc Tryz.prog Tryz.f3 (OpenSpec.ofChange Rows.readsSpec) false w args)
      (Rows.readsSpec.post enc Tryz.prog Tryz.f3 false true false false) := by
  have hplain : ∀ w, laidMetH Tryz.prog Rows.readsRow.laid w = laidMet Tryz.prog Rows.readsRow.laid w := fun w => MakeChecks.laidMetH_plain _ _ _ (by kernel_rfl)
  refine returnsInHanded_of_change_and (C := Tryz.checked) (X := fun w _ => laidMetH Tryz.prog Rows.readsRow.laid w) (fun _ _ _ hh h => h.of_heap hh) own started (by kernel_rfl) Tryz.func3
    (ChangeSpec.witness_shaped (enc := enc) (C := Tryz.checked) (os := os) (X := fun w _ => laidMetH Tryz.prog Rows.readsRow.laid w) false (World.laidAll Tryz.prog os Rows.readsRow.laid) #[.slice none 0 0] 8 (World.laidAll_os _ _ _) (World.shaped_of_ZipB (by kernel_rfl) (by kernel_rfl)) (by kernel_rfl) (by kernel_rfl) (by kernel_rfl) (by rw [hplain]; exact laidMet_laidAll _ (by kernel_rfl) (by kernel_rfl))) ?_
  intro W base args ds gs before hval0 hW _ _ hL _
  have hval : ∀ (j : Nat) t v, Tryz.f3.params[j]? = some t → args[j]? = some v → Value.okWide Tryz.prog W .any base t v := hval0
  have hW' := hW
  obtain ⟨p, q, hA0, hV, rfl, hfz, hnd⟩ := hW
  have hA : DataW.TrodAll enc Tryz.prog W 0 (fun _ => true) true Tryz.f3.params.toList args.toList ds p := hA0
  rw [Tryz.params3] at hA hval
  obtain ⟨v0, d0, rfl, rfl, h0⟩ := trodAll_one hA
  obtain ⟨rfl, rfl⟩ := trodVars_none hV
  obtain ⟨sa, n, cap, rfl, hn, hS⟩ := script_in (okWide_slice Tryz.underlying22 (hval 0 _ v0 rfl rfl)) h0
  rw [hplain] at hL
  obtain ⟨hhd, hten⟩ := laid_of hL
  clear hA0 hval0
  simp only [List.append_nil] at hW'
  have hlt : ∀ x ∈ p, x.block < W.heap.size := hA.lt
  refine (walk W sa n cap hn hS hhd hten).mono fun e W' ⟨he, hx⟩ => ?_
  subst he
  have hb := hx.toBelow
  refine ⟨_, rfl, _, _, _, [], p, [], hW', trodAll_mk1 (shut_bool Tryz.underlying4 _), ?_, rfl, hb.frame _, fun h => by cases h⟩
  exact trodAll_mk1 (hb.trod (by kernel_rfl) (by kernel_rfl) (of_decide_eq_true (by kernel_rfl)) h0 hlt)

theorem reads_said (walk : Walked 3) : Rows.ReadsSaid :=
  OpenClaim.holds_of_wide 3 Tryz.f3 rfl rfl rfl rfl rfl rfl rfl ⟨rfl, rfl, rfl, rfl, rfl⟩ rfl rfl rfl rfl rfl (by kernel_rfl) Tryz.func3 (by kernel_rfl)
    (of_decide_eq_true (by kernel_rfl)) (by unfold Func.isWrapper; rw [if_neg (of_decide_eq_false (by kernel_rfl))]; exact ⟨rfl, rfl⟩)
    (fun os started H enc _ => reads_lifted walk os started H enc)

theorem reads_card (walk : Walked 3) : Rows.ReadsCardSaid :=
  Claim7.holds_tied_plain_at .later [] [.data, .data, .data, .data, .data] true Rows.readsCard.stood.harness true
    (reads_said walk) (fun _ h => by cases h) (by kernel_rfl) (fun _ h => by cases h) reads_row_tie rfl ⟨rfl, rfl⟩ (by kernel_rfl) rfl
    (fun f fn hf hfn => by
      obtain rfl : f = 3 := Option.some.inj ((show Tryz.prog.funcNamed "arbiter/arbiterlaw.Reads" = some 3 by kernel_rfl).symm.trans hf) |>.symm
      obtain rfl : fn = Tryz.f3 := (Option.some.inj (Tryz.func3.symm.trans hfn)).symm
      exact ⟨by kernel_rfl, fun j t ht => by
        rw [Tryz.params3] at ht
        have hm : t ∈ [22] := by simpa using Array.mem_of_getElem? ht
        have hall : ([22].all fun u => !Tryz.prog.wantsStandIn u) = true := by kernel_rfl
        exact (show Tryz.prog.wantsStandIn t = false by simpa using List.all_eq_true.1 hall t hm)⟩)
    (by kernel_rfl)

end Go.Proofs.YtegbdaffhpiacaaGreatDoor
