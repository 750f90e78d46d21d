/- Chained: out of the walk to the row, and to its card. -/
import Derived.Test.YtegbdaffhpiacaaGreatDoorChn49
import Derived.Test.YtegbdaffhpiacaaGreatDoorChn51
import Derived.Test.YtegbdaffhpiacaaGreatDoorTie
import Derived.Test.YtegbdaffhpiacaaGreatDoorCards
import Derived.Lay
import Derived.SevenTiedAt
import Derived.ChangeSlices
namespace Go.Proofs.YtegbdaffhpiacaaGreatDoor
open Go.ChangeShapes Go.WideShapes Go.ChangeAt Go.WideMaps Go.WideElems Go.RowKit Go.Deep Ar
theorem gaps_in {W:World} {H:Type} {enc:TypeId × Value->H} {sa:Option Addr} {n cap:Nat} {d:DataW H} {p:List MemPlace}
  (h:DataW.Trod enc Tryz.prog W 0 (fun _=>true) true 25 (.slice sa n cap) d p):n<=maxLen/\∃ g,Gaps W sa n g:=by
 obtain ⟨fuel,hf⟩:=h
 rcases open_ints Tryz.underlying25 Tryz.underlying3 (by kernel_rfl) hf with ⟨hcs,_⟩ | ⟨a,len,cp,zs,hcs,_,hl,hm,hz,_,hc,hw⟩
 ·have e0:Value.slice sa n cap=.slice none 0 0:=by simpa [Value.cells] using hcs
  cases e0
  exact ⟨Nat.zero_le _,fun _=>0,fun i hi=>absurd hi (Nat.not_lt_zero i)⟩
 ·have e0:Value.slice sa n cap=.slice (some a) len cp:=by simpa [Value.cells] using hcs
  cases e0
  rw [if_pos rfl] at hz
  refine ⟨Nat.le_trans hl hm,fun i=>zs.getD i 0,fun i hi=>?_⟩
  have h0:=hc 0 (by omega)
  have hsp:a.spot=none:=by
   have:=World.cell?_spot h0
   simpa [Addr.add] using this
  obtain ⟨b,off,sp⟩:=a
  simp only at hsp
  subst hsp
  have hi':=hc i (by omega)
  have ec:(⟨b,off,none⟩:Addr).add i=⟨b,off+i,none⟩:=by
   unfold Addr.add
   split
   ·simp
   ·rfl
  rw [ec] at hi'
  have hb:b < W.heap.size:=by
   unfold World.cell? at hi'
   split at hi' <;> rename_i hh <;> first
    | exact blt hh
    | simp at hi'
  have hwi:(Lit.int .i64 (zs.getD i 0)).wf=true:=by
   refine hw _ ?_
   rw [List.getD_eq_getElem?_getD,List.getElem?_eq_getElem (by omega)]
   exact List.getElem_mem _
  have hbd:=bounds_i64 hwi
  exact ⟨b,off,rfl,hb,hi',hbd.1,hbd.2⟩
set_option maxRecDepth 100000 in
theorem chained_lifted (os:Os) (started:os.Started) (H:Type) (enc:TypeId × Value->H) :
  ReturnsInHanded {} Tryz.checked os 7 .any (fun w args=>(Rows.chainedSpec.pre enc Tryz.prog Tryz.f7 [] false w args/\laidMetH Tryz.prog Rows.chainedRow.laid w)/\sizedMet enc Tryz.prog Tryz.f7 (OpenSpec.ofChange Rows.chainedSpec) false w args)
   (Rows.chainedSpec.post enc Tryz.prog Tryz.f7 false true false false):=by
 have hplain:∀ w,laidMetH Tryz.prog Rows.chainedRow.laid w=laidMet Tryz.prog Rows.chainedRow.laid w:=fun w=>MakeChecks.laidMetH_plain _ _ _ (by kernel_rfl)
 refine handed_shaped (C:=Tryz.checked) (X:=fun w _=>laidMetH Tryz.prog Rows.chainedRow.laid w) (fun _ _ _ hh h=>h.of_heap hh) own started (by kernel_rfl) Tryz.func7
  (ChangeSpec.witness_shaped (enc:=enc) (C:=Tryz.checked) (os:=os) (X:=fun w _=>laidMetH Tryz.prog Rows.chainedRow.laid w) false (World.laidAll Tryz.prog os Rows.chainedRow.laid) #[.slice none 0 0] 8 (World.laidAll_os _ _ _) (World.shaped_of_ZipB (by kernel_rfl) (by kernel_rfl)) (by kernel_rfl) (by kernel_rfl) (by kernel_rfl) (by rw [hplain];exact laidMet_laidAll _ (by kernel_rfl) (by kernel_rfl))) ?_
 intro W base args ds gs before hsh hval0 hW hL
 have hval:∀ (j:Nat) t v,Tryz.f7.params[j]?=some t->args[j]?=some v->Value.okWide Tryz.prog W .any base t v:=hval0
 have hW':=hW
 obtain ⟨p,q,hA0,hV,rfl,hfz,hnd⟩:=hW
 have hA:DataW.TrodAll enc Tryz.prog W 0 (fun _=>true) true Tryz.f7.params.toList args.toList ds p:=hA0
 rw [Tryz.params7] at hA hval
 obtain ⟨v0,d0,rfl,rfl,h0⟩:=trodAll_one hA
 obtain ⟨rfl,rfl⟩:=trodVars_none hV
 obtain ⟨sa,n,cap,rfl⟩:=okWide_slice Tryz.underlying25 (hval 0 _ v0 rfl rfl)
 obtain ⟨hn,g,hg⟩:=gaps_in h0
 rw [hplain] at hL
 obtain ⟨hhd,hpt⟩:=laid_keep hsh hL
 clear hA0 hval0
 simp only [List.append_nil] at hW'
 have hlt:∀ x∈p,x.block < W.heap.size:=hA.lt
 refine (chained_any W sa n cap g hn hg hhd hpt).mono fun e W' ⟨he,hx⟩=>?_
 subst he
 have hb:=hx.below0
 refine ⟨_,rfl,_,_,_,[],p,[],hW',trodAll_mk1 (shut_bool Tryz.underlying4 _),?_,rfl,hb.frame _,fun h=>by cases h⟩
 exact trodAll_mk1 (hb.trod (by kernel_rfl) (by kernel_rfl) (of_decide_eq_true (by kernel_rfl)) h0 hlt)
theorem chained_said:Rows.ChainedSaid :=
 OpenClaim.holds_of_wide 7 Tryz.f7 rfl rfl rfl rfl rfl rfl rfl ⟨rfl,rfl,rfl,rfl,rfl⟩ rfl rfl rfl rfl rfl (by kernel_rfl) Tryz.func7 (by kernel_rfl)
  (of_decide_eq_true (by kernel_rfl)) (by unfold Func.isWrapper;rw [if_neg (of_decide_eq_false (by kernel_rfl))];exact ⟨rfl,rfl⟩)
  (fun os started H enc _=>chained_lifted os started H enc)
theorem chained_holds:Rows.ChainedCardSaid :=
 Claim7.holds_tied_plain_at .later [] [.data,.data] true Rows.chainedCard.stood.harness true
  chained_said (fun _ h=>by cases h) (by kernel_rfl) (fun _ h=>by cases h) chained_row_tie rfl ⟨rfl,rfl⟩ (by kernel_rfl) rfl
  (fun f fn hf hfn=>by
   obtain rfl : f = 7 := Option.some.inj ((show Tryz.prog.funcNamed "arbiter/arbiterkeep.Chained" = some 7 by kernel_rfl).symm.trans hf) |>.symm
   obtain rfl:fn=Tryz.f7:=(Option.some.inj (Tryz.func7.symm.trans hfn)).symm
   exact ⟨by kernel_rfl,fun j t ht=>by
    rw [Tryz.params7] at ht
    have hm:t∈[25]:=by simpa using Array.mem_of_getElem? ht
    have hall:([25].all fun u => !Tryz.prog.wantsStandIn u)=true:=by kernel_rfl
    exact (show Tryz.prog.wantsStandIn t=false by simpa using List.all_eq_true.1 hall t hm)⟩)
  (by kernel_rfl)
end Go.Proofs.YtegbdaffhpiacaaGreatDoor
