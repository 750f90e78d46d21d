/- Decides (promise P8, with P4 to P7): for every script of calls of Declare, Tidy, Assert, Push, Pop, Count and Check on two sessions, and every other step passed over, the law returns true, and the script reads as it did; the package variables listed in the row hold what the program's text lays. -/
import Derived.Test.YtegbdaffhpiacaaGreatDoorDcg70
import Derived.Test.YtegbdaffhpiacaaGreatDoorTie
import Derived.Test.YtegbdaffhpiacaaGreatDoorCards
import Derived.Lay
import Derived.SevenTiedAt
set_option maxRecDepth 100000
set_option maxHeartbeats 400000
namespace Go.Proofs.YtegbdaffhpiacaaGreatDoor
open Go.Proofs.Tryz
open Go.ChangeShapes Go.WideShapes Go.ChangeAt Go.WideMaps Go.WideElems Go.RowKit Go.Deep Ar
theorem qr9:Zb7 5:=by intro W e n cap c a b;have f:=q8 (jW1 jI9 aE W e n cap c aA a b);clear c a b;go_enter func5,ntmps5;go_wp2_with fail;refine f.mono ?_;rintro _ _ ⟨rfl,d⟩;have HX:=q8 d;clear d;go_wp2_with fail;exact SW
theorem zZ3(os:Os)(b:os.Started)(H:Type)(enc:TypeId×au->H):ReturnsInHanded {} Tryz.checked os 5 .any (λw args=>(Rows.decidesSpec.pre enc prog Tryz.f5 [] false w args/\laidMetH prog Rows.decidesRow.laid w)/\sizedMet enc prog Tryz.f5 (OpenSpec.ofChange Rows.decidesSpec) false w args) (Rows.decidesSpec.post enc prog Tryz.f5 false true false false):=by have a:∀w,laidMetH prog Rows.decidesRow.laid w=laidMet prog Rows.decidesRow.laid w:=λw=>MakeChecks.laidMetH_plain _ _ _ aG;refine qi7 (C:=Tryz.checked) (X:=λw _=>laidMetH prog Rows.decidesRow.laid w) (λ_ _ _ r h=>h.of_heap r) own b aG func5 (ChangeSpec.witness_shaped (enc:=enc) (C:=Tryz.checked) (os:=os) (X:=λw _=>laidMetH prog Rows.decidesRow.laid w) false (World.laidAll prog os Rows.decidesRow.laid) #[ae] 8 (World.laidAll_os _ _ _) (World.shaped_of_ZipB aG aG) aG aG aG (by rw[a];exact laidMet_laidAll _ aG aG)) ?_;intro W e args q _ _ l c o g;have d:∀(j:Nat)t v,Tryz.f5.params[j]?=some t->args[j]?=some v->Value.okWide prog W .any e t v:=c;have f:=o;obtain⟨p,_,hA0,D,rfl,_,_⟩:=o;have k:DataW.TrodAll enc prog W 0 (λ_=>true) true Tryz.f5.params.toList args.toList q p:=hA0;rw[params5]at k d;obtain⟨B,_,rfl,rfl,m⟩:=trodAll_one k;obtain⟨rfl,rfl⟩:=trodVars_none D;obtain⟨y,n,cap,rfl,u,A⟩:=jd6 (okWide_slice underlying22 (d 0 _ B rfl rfl)) m;rw[a]at g;have g:=jr5 l g;clear hA0 c;simp only[Fy]at f;have i:∀x∈p,x.block<W.heap.size:=k.lt;refine(qr9 W y n cap u A g).mono λ_ _ ⟨z,s⟩=>?_;subst z;have hb:=s.Zfu;refine⟨_,rfl,_,_,_,[],p,[],f,trodAll_mk1 (shut_bool underlying4 _),?_,rfl,hb.frame _,λh=>by cases h⟩;exact trodAll_mk1 (hb.trod aG aG (qA aG) m i)
theorem qs0:Rows.DecidesSaid:=OpenClaim.holds_of_wide 5 Tryz.f5 rfl rfl rfl rfl rfl rfl rfl ⟨rfl,rfl,rfl,rfl,rfl⟩ rfl rfl rfl rfl rfl aG func5 aG (qA aG) (by unfold Func.isWrapper;rw[aF (of_decide_eq_false aG)];exact ko) (λos a H enc _=>zZ3 os a H enc)
theorem decides_holds:Rows.DecidesCardSaid :=
 Claim7.holds_tied_plain_at .later [] [.data,.data,.data,.data,.data] true Rows.decidesCard.stood.harness true
  qs0 (fun _ h=>by cases h) (by kernel_rfl) (fun _ h=>by cases h) decides_row_tie rfl ⟨rfl,rfl⟩ (by kernel_rfl) rfl
  (fun f fn hf xJ=>by
   obtain rfl : f = 5 := dI ((show Tryz.prog.funcNamed "arbiter/arbiterlaw.Decides" = some 5 by kernel_rfl).symm.trans hf) |>.symm
   obtain rfl:fn=Tryz.f5:=(dI (func5.symm.trans xJ)).symm
   exact⟨by kernel_rfl,fun j t ht=>by
    rw[params5] at ht
    have hm:t∈[22]:=by simpa using Array.mem_of_getElem? ht
    have fU:([22].all fun u => !prog.wantsStandIn u)=true:=by kernel_rfl
    exact(show prog.wantsStandIn t=false by simpa using tN.1 fU t hm)⟩)
  (by kernel_rfl)
end Go.Proofs.YtegbdaffhpiacaaGreatDoor
