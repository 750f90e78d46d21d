/- Modeled: out of the walk to the row, and to its card. -/
import Derived.Test.YtegbdaffhpiacaaGreatDoorMod45
import Derived.Test.YtegbdaffhpiacaaGreatDoorMod48
import Derived.Test.YtegbdaffhpiacaaGreatDoorTie
import Derived.Test.YtegbdaffhpiacaaGreatDoorCards
import Derived.Lay
import Derived.SevenTiedAt
import Derived.ChangeSlices
set_option maxRecDepth 100000
namespace Go.Proofs.YtegbdaffhpiacaaGreatDoor
open Go.Proofs.Tryz hiding parts
open Go.ChangeShapes Go.WideShapes Go.ChangeAt Go.WideMaps Go.WideElems Go.RowKit Go.Deep Ar
theorem zN3(os:Os)(started:os.Started)(H:Type)(enc:TypeId × Value->H):
  ReturnsInHanded {} Tryz.checked os 10 .any (fun w args=>(Rows.modeledSpec.pre enc prog Tryz.f10 [] false w args/\laidMetH prog Rows.modeledRow.laid w)/\sizedMet enc prog Tryz.f10 (OpenSpec.ofChange Rows.modeledSpec) false w args)
   (Rows.modeledSpec.post enc prog Tryz.f10 false true false false):=by
 have hplain:∀ w,laidMetH prog Rows.modeledRow.laid w=laidMet prog Rows.modeledRow.laid w:=fun w=>MakeChecks.laidMetH_plain _ _ _ (by kernel_rfl)
 refine zS0 (C:=Tryz.checked) (X:=fun w _=>laidMetH prog Rows.modeledRow.laid w) (fun _ _ _ hh h=>h.of_heap hh) own started (by kernel_rfl) func10
  (ChangeSpec.witness_shaped (enc:=enc) (C:=Tryz.checked) (os:=os) (X:=fun w _=>laidMetH prog Rows.modeledRow.laid w) false (World.laidAll prog os Rows.modeledRow.laid) #[.slice none 0 0,.int .i64 0] 8 (World.laidAll_os _ _ _) (World.shaped_of_ZipB (by kernel_rfl) (by kernel_rfl)) (by kernel_rfl) (by kernel_rfl) (by kernel_rfl) (by rw[hplain];exact laidMet_laidAll _ (by kernel_rfl) (by kernel_rfl))) ?_
 intro W base args ds gs before hsh hval0 hW hL;have hval:∀ (j:Nat) t v,Tryz.f10.params[j]?=some t->args[j]?=some v->Value.okWide prog W .any base t v:=hval0;have hW':=hW;obtain⟨p,q,hA0,hV,rfl,hfz,hnd⟩:=hW;have hA:DataW.TrodAll enc prog W 0 (fun _=>true) true Tryz.f10.params.toList args.toList ds p:=hA0;rw[params10] at hA hval;obtain⟨v0,v1,d0,d1,p0,p1,rfl,rfl,rfl,h0,h1⟩:=trodAll_two hA;obtain⟨rfl,rfl⟩:=trodVars_none hV;obtain⟨sa,n,cap,rfl⟩:=okWide_slice underlying25 (hval 0 _ v0 rfl rfl);obtain⟨hn,g,hg⟩:=jd6 h0;obtain⟨n1,rfl,rfl,rfl,w1⟩:=open_int underlying3 (hval 1 _ v1 rfl rfl) h1;rw[hplain] at hL;obtain⟨hhd,hpt⟩:=qJ0 hsh hL;clear hA0 hval0;simp only[List.append_nil] at hW';have hlt:∀ x∈p0,x.block<W.heap.size:=fun x hx=>hA.lt x (List.mem_append_left _ hx)
 refine(qj5 W sa n cap g n1 (bounds_i64 w1) hn hg hhd hpt).mono fun e W' ⟨he,hx⟩=>?_
 subst he;have hb:=hx.below0;refine⟨_,rfl,_,_,_,[],p0,[],hW',trodAll_mk1 (shut_bool underlying4 _),?_,rfl,hb.frame _,fun h=>by cases h⟩;have hk:=trodAll_mk2 (hb.trod (by kernel_rfl) (by kernel_rfl) (of_decide_eq_true (by kernel_rfl)) h0 hlt) (shut_int underlying3 w1);simp only[List.append_nil] at hk;exact hk
theorem qa5:Rows.ModeledSaid :=
 OpenClaim.holds_of_wide 10 Tryz.f10 rfl rfl rfl rfl rfl rfl rfl ⟨rfl,rfl,rfl,rfl,rfl⟩ rfl rfl rfl rfl rfl (by kernel_rfl) func10 (by kernel_rfl)
  (of_decide_eq_true (by kernel_rfl)) (by unfold Func.isWrapper;rw[if_neg (of_decide_eq_false (by kernel_rfl))];exact⟨rfl,rfl⟩)
  (fun os started H enc _=>zN3 os started H enc)
theorem modeled_holds:Rows.ModeledCardSaid :=
 Claim7.holds_tied_plain_at .later [] [.data,.data] true Rows.modeledCard.stood.harness true
  qa5 (fun _ h=>by cases h) (by kernel_rfl) (fun _ h=>by cases h) modeled_row_tie rfl ⟨rfl,rfl⟩ (by kernel_rfl) rfl
  (fun f fn hf hfn=>by
   obtain rfl : f = 10 := Option.some.inj ((show Tryz.prog.funcNamed "arbiter/arbiterkeep.Modeled" = some 10 by kernel_rfl).symm.trans hf) |>.symm
   obtain rfl:fn=Tryz.f10:=(Option.some.inj (func10.symm.trans hfn)).symm;exact⟨by kernel_rfl,fun j t ht=>by
    rw[params10] at ht;have hm:t∈[25,3]:=by simpa using Array.mem_of_getElem? ht
    have hall:([25,3].all fun u => !prog.wantsStandIn u)=true:=by kernel_rfl
    exact(show prog.wantsStandIn t=false by simpa using List.all_eq_true.1 hall t hm)⟩)
  (by kernel_rfl)
end Go.Proofs.YtegbdaffhpiacaaGreatDoor
