/- All, the second form (promises P1 to P10): for every script of calls on two sessions whose bulk is 1048576 at the most, with all that came out kept in the book, the law returns true, and the script reads as it did; the package variables listed in the row hold what the program's text lays. -/
import Derived.Test.YtegbdaffhpiacaaGreatDoorAl71
import Derived.Test.YtegbdaffhpiacaaGreatDoorTie
import Derived.Test.YtegbdaffhpiacaaGreatDoorCards
set_option maxRecDepth 100000
set_option maxHeartbeats 400000
namespace Go.Proofs.YtegbdaffhpiacaaGreatDoor
open Go.Proofs.Tryz
open Go.ChangeShapes Go.WideShapes Go.ChangeAt Go.WideMaps Go.WideElems Go.RowKit Go.Deep Ar
theorem Zn4{H:Type}(d:DataW H):0<Rows.uptoBulk d:=by cases d with|lit l=>(cases l<;>exact Nat.succ_pos _)|_=>exact Nat.succ_pos _
theorem Zh9{H:Type}:∀l:List (DataW H),l.length<=Rows.uptoBulkAll l|[]=>cf _|x::r=>by have a:=Zn4 x;have b:=Zh9 r;simp only[Rows.uptoBulkAll,mL];omega
theorem Zj0{H:Type}{P:Program}{w:ao}{enc:TypeId×au->H}{t e:TypeId}(f:P.underlying t=some (.slice e)){c:Option Addr}{n cap:Nat}{d:DataW H}{p:List MemPlace}(h:DataW.Trod enc P w 0 (λ_=>true) true t (.slice c n cap) d p):n<=Rows.uptoBulk d:=by obtain⟨_,i⟩:=h;rcases open_slice f i with⟨xg,_⟩|⟨a,len,l,_,_,D,_,xg,_,_,_,_,j,_⟩;have b:Value.slice c n cap=ae:=Ui;cases b;exact cf _;have b:Value.slice c n cap=.slice (some a) len l:=Ui;cases b;have k:d=_:=jQ Prod.fst j;rw[k];have g:=Zh9 ((List.range n).map D);rw[fG,List.length_range]at g;simp only[Rows.uptoBulk];omega
theorem Zn5(W:ao)(a:Option Addr)(n cap:Nat)(f:n<=maxLen)(b:n+2<=1048580)(c:OS W a n)(d:nF W):cP 11 #[.slice a n cap] W λe w'=>e=.returned (ah)/\eX W w':=by have h:=q8 (jW1 Zp4 bJ W a n cap f b c d);clear f b c d;delta cP;go_in;go_wp2_with fail;refine h.I ?_;rintro e w' ⟨rfl,g⟩;have HX:=q8 g;clear g;go_wp2_with fail;go_ret;exact⟨rfl,HX⟩
theorem Zn6{H:Type}{d:DataW H}(a:Rows.uptoSmall H ([d]++[])=true):Rows.uptoBulk d<=1048576:=by
 have h:Rows.uptoBulkAll ([d]++[])<=1048576:=pN a;have e:Rows.uptoBulkAll ([d]++[])=Rows.uptoBulk d:=by simp only[CQ,Rows.uptoBulkAll,Nat.add_zero]
 exact e▸h
theorem Zj1(f:Os)(c:f.Started)(H:Type)(enc:TypeId×au->H)(F:Stop.Interp):ReturnsInHanded {} Tryz.checked f 11 .any ((Rows.OpenSpec.upto Rows.allSpec).preRow enc prog Tryz.f11 Rows.allUptoRow.domain false Rows.allUptoRow.laid) (((Rows.OpenSpec.upto Rows.allSpec).at F).post enc prog Tryz.f11 false true false false):=by have a:∀w,laidMetH prog Rows.allUptoRow.laid w=laidMet prog Rows.allUptoRow.laid w:=λw=>MakeChecks.laidMetH_plain _ _ _ bS;have k:Input.okWideB prog ((World.laidAll prog f Rows.allUptoRow.laid).forCall (λ_ _=>0) ⟨#[],#[ae],[]⟩) 11 ⟨#[],#[ae],[]⟩=true:=bS;have u:DataW.whole enc prog ((World.laidAll prog f Rows.allUptoRow.laid).forCall (λ_ _=>0) ⟨#[],#[ae],[]⟩).memory Tryz.f11.params.toList (Rows.OpenSpec.upto Rows.allSpec).vars false #[ae].toList 8=some ([.nil],[],[]):=bS;refine returnsInHanded_of_row (C:=Tryz.checked) (s:=Rows.OpenSpec.upto Rows.allSpec) own c bS func11 ⟨World.laidAll prog f Rows.allUptoRow.laid,λ_ _=>0,⟨#[],#[ae],[]⟩,World.laidAll_os _ _ _,World.shaped_of_ZipB bS bS,(Input.okWide_of_okWideB (base:=0) k).1,(Input.okWide_of_okWideB k).2,OpenSpec.preRow_of_cond 8 u bS (λ_ A=>by cases A;exact bS) bS (Eq.mpr (a _) (laidMet_laidAll _ bS bS)),by simp only[Assume.holds];exact⟨bK,bK,λ_=>Modest.zero,bK,bK⟩⟩ ?_;intro W base args B _ _ d z _ b _ q y _;have e:∀(j:Nat)t v,Tryz.f11.params[j]?=some t->args[j]?=some v->Value.okWide prog W .any base t v:=d;have g:=z;obtain⟨p,_,hA0,L,rfl,_,_⟩:=z;have r:DataW.TrodAll enc prog W 0 (λ_=>true) true Tryz.f11.params.toList args.toList B p:=hA0;rw[params11]at r e;obtain⟨K,_,rfl,rfl,o⟩:=trodAll_one r;obtain⟨rfl,rfl⟩:=trodVars_none L;obtain⟨G,n,cap,rfl,E,J⟩:=jd6 (okWide_slice underlying22 (e 0 _ K rfl rfl)) o;have l:=Zn6 (b _ rfl);have i:=Zj0 underlying22 o;have D:n+2<=1048580:=dm (Nat.add_le_add_right (dm i l) 2) bJ;have q:=jr5 y (Eq.mp (a W) q);clear hA0 d b l i;simp only[CQ]at g;have m:∀x∈p,x.block<W.heap.size:=r.lt;refine(Zn5 W G n cap E D J q).I λ_ _ ⟨I,u⟩=>?_;subst I;have hb:=u.Zgq;refine⟨_,rfl,_,_,_,[],p,[],g,trodAll_mk1 (shut_bool underlying4 _),?_,rfl,hb.frame _,λh=>by cases h⟩;exact trodAll_mk1 (hb.trod bS bS (pN bS) o m)
theorem Zn7:Rows.AllUptoSaid:=OpenClaim.holds_of_cond 11 Tryz.f11 rfl rfl rfl rfl rfl rfl rfl ⟨rfl,rfl,rfl,rfl,rfl⟩ rfl rfl rfl rfl rfl bS func11 bS (pN bS) (by unfold Func.isWrapper;rw[bL (of_decide_eq_false bS)];exact lN) (λb a H enc _ F=>by rw[OpenClaim.pre_eq_preRow];exact Zj1 b a H enc F)
theorem all_holds:Rows.AllUptoCardSaid :=
 Claim7.holds_tied_plain_at .later [] [.data,.data,.data,.data,.data] true Rows.allUptoCard.stood.harness true
  Zn7 (fun _ h=>by cases h) (by kernel_rfl) (fun _ h=>by cases h) allUpto_row_tie rfl ⟨rfl,rfl⟩ (by kernel_rfl) rfl
  (fun f fn hf yO=>by
   obtain rfl : f = 11 := eI ((show Tryz.prog.funcNamed "arbiter/arbiterlaw.All" = some 11 by kernel_rfl).symm.trans hf) |>.symm
   obtain rfl:fn=Tryz.f11:=(eI (func11.symm.z yO)).symm
   exact⟨by kernel_rfl,fun j t ht=>by
    rw[params11] at ht
    have hm:t∈[22]:=by simpa using Array.mem_of_getElem? ht
    have ir:([22].all fun u => ! prog.wantsStandIn u)=true:=by kernel_rfl
    exact(show prog.wantsStandIn t=false by simpa using qH.1 ir t hm)⟩)
  (by kernel_rfl)
end Go.Proofs.YtegbdaffhpiacaaGreatDoor
