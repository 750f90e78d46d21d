/- Either: out of the walk to the row, and to its card. -/
import Derived.Test.YtegbdaffhpiacaaGreatDoorEit47
import Derived.Test.YtegbdaffhpiacaaGreatDoorEit50
import Derived.Test.YtegbdaffhpiacaaGreatDoorEit49
import Derived.Test.YtegbdaffhpiacaaGreatDoorTie
import Derived.Test.YtegbdaffhpiacaaGreatDoorCards
import Derived.Lay
import Derived.SevenTiedAt
import Derived.ChangeSlices
namespace Go.Proofs.YtegbdaffhpiacaaGreatDoor
open Go.ChangeShapes Go.WideShapes Go.ChangeAt Go.WideMaps Go.WideElems Go.RowKit Go.Deep Ar
set_option maxRecDepth 100000 in
theorem zO5 (os:Os) (started:os.Started) (H:Type) (enc:TypeId × Value->H) :
  ReturnsInHanded {} Tryz.checked os 6 .any (fun w args=>(Rows.eitherSpec.pre enc Tryz.prog Tryz.f6 [] false w args/\laidMetH Tryz.prog Rows.eitherRow.laid w)/\sizedMet enc Tryz.prog Tryz.f6 (OpenSpec.ofChange Rows.eitherSpec) false w args)
   (Rows.eitherSpec.post enc Tryz.prog Tryz.f6 false true false false):=by
 have hplain:∀ w,laidMetH Tryz.prog Rows.eitherRow.laid w=laidMet Tryz.prog Rows.eitherRow.laid w:=fun w=>MakeChecks.laidMetH_plain _ _ _ (by kernel_rfl)
 refine zO6 (C:=Tryz.checked) (X:=fun w _=>laidMetH Tryz.prog Rows.eitherRow.laid w) (fun _ _ _ hh h=>h.of_heap hh) own started (by kernel_rfl) Tryz.func6
  (ChangeSpec.witness_shaped (enc:=enc) (C:=Tryz.checked) (os:=os) (X:=fun w _=>laidMetH Tryz.prog Rows.eitherRow.laid w) false (World.laidAll Tryz.prog os Rows.eitherRow.laid) #[.slice none 0 0] 8 (World.laidAll_os _ _ _) (World.shaped_of_ZipB (by kernel_rfl) (by kernel_rfl)) (by kernel_rfl) (by kernel_rfl) (by kernel_rfl) (by rw [hplain];exact laidMet_laidAll _ (by kernel_rfl) (by kernel_rfl))) ?_
 intro W base args ds gs before hsh hval0 hW hL
 have hval:∀ (j:Nat) t v,Tryz.f6.params[j]?=some t->args[j]?=some v->Value.okWide Tryz.prog W .any base t v:=hval0
 have hW':=hW
 obtain ⟨p,q,hA0,hV,rfl,hfz,hnd⟩:=hW
 have hA:DataW.TrodAll enc Tryz.prog W 0 (fun _=>true) true Tryz.f6.params.toList args.toList ds p:=hA0
 rw [Tryz.params6] at hA hval
 obtain ⟨v0,d0,rfl,rfl,h0⟩:=trodAll_one hA
 obtain ⟨rfl,rfl⟩:=trodVars_none hV
 obtain ⟨sa,n,cap,rfl⟩:=okWide_slice Tryz.underlying25 (hval 0 _ v0 rfl rfl)
 obtain ⟨hn,g,hg⟩:=qY0 h0
 rw [hplain] at hL
 obtain ⟨hhd,hpt⟩:=qD6 hsh hL
 clear hA0 hval0
 simp only [List.append_nil] at hW'
 have hlt:∀ x∈p,x.block < W.heap.size:=hA.lt
 refine (qo4 W sa n cap g hn hg hhd hpt).mono fun e W' ⟨he,hx⟩=>?_
 subst he
 have hb:=hx.below0
 refine ⟨_,rfl,_,_,_,[],p,[],hW',trodAll_mk1 (shut_bool Tryz.underlying4 _),?_,rfl,hb.frame _,fun h=>by cases h⟩
 exact trodAll_mk1 (hb.trod (by kernel_rfl) (by kernel_rfl) (of_decide_eq_true (by kernel_rfl)) h0 hlt)
theorem qe9:Rows.EitherSaid :=
 OpenClaim.holds_of_wide 6 Tryz.f6 rfl rfl rfl rfl rfl rfl rfl ⟨rfl,rfl,rfl,rfl,rfl⟩ rfl rfl rfl rfl rfl (by kernel_rfl) Tryz.func6 (by kernel_rfl)
  (of_decide_eq_true (by kernel_rfl)) (by unfold Func.isWrapper;rw [if_neg (of_decide_eq_false (by kernel_rfl))];exact ⟨rfl,rfl⟩)
  (fun os started H enc _=>zO5 os started H enc)
theorem either_holds:Rows.EitherCardSaid :=
 Claim7.holds_tied_plain_at .later [] [.data,.data] true Rows.eitherCard.stood.harness true
  qe9 (fun _ h=>by cases h) (by kernel_rfl) (fun _ h=>by cases h) either_row_tie rfl ⟨rfl,rfl⟩ (by kernel_rfl) rfl
  (fun f fn hf hfn=>by
   obtain rfl : f = 6 := Option.some.inj ((show Tryz.prog.funcNamed "arbiter/arbiterkeep.Either" = some 6 by kernel_rfl).symm.trans hf) |>.symm
   obtain rfl:fn=Tryz.f6:=(Option.some.inj (Tryz.func6.symm.trans hfn)).symm
   exact ⟨by kernel_rfl,fun j t ht=>by
    rw [Tryz.params6] at ht
    have hm:t∈[25]:=by simpa using Array.mem_of_getElem? ht
    have hall:([25].all fun u => !Tryz.prog.wantsStandIn u)=true:=by kernel_rfl
    exact (show Tryz.prog.wantsStandIn t=false by simpa using List.all_eq_true.1 hall t hm)⟩)
  (by kernel_rfl)
end Go.Proofs.YtegbdaffhpiacaaGreatDoor
