/- Part. -/
import Derived.Test.YtegbdaffhpiacaaGreatDoorAlP
import Derived.Test.YtegbdaffhpiacaaGreatDoorProg
import Derived.Below
import Derived.BigQuiet
import Derived.Deep.QuietTactic
import Derived.WalkKit
import Derived.WalkLawsBesides
import Derived.WalkSpells
namespace Go.Proofs.YtegbdaffhpiacaaGreatDoor
open Go.RowKit Tryz
abbrev ad(a:Array Value)(n:TypeId):Option Obj:=some (.cells a n)
abbrev af:Value:=.bool false
abbrev ah:Value:=.bool true
abbrev ai(x:ByteArray):Value:=.string x
abbrev aj:=Nat->Prop
abbrev ak:=List Value
abbrev ao:=World
abbrev au:=Value
abbrev ax:=ByteArray
abbrev ay:=ByteArray.empty
abbrev az(b n c:Nat):Value:=.slice (some ⟨b,0,none⟩) n c
variable{G:Prop}
theorem bR:type_of% @Go.heap_alloc_new:=@Go.heap_alloc_new
theorem cq:type_of% @Go.bodyPost_ret:=@Go.bodyPost_ret
theorem cR:type_of% @Go.info_parts:=@Go.info_parts
theorem cU:type_of% @Go.heap_alloc_old:=@Go.heap_alloc_old
theorem fB:type_of% @Go.World.ownsRow_nil:=@Go.World.ownsRow_nil
theorem gQ:type_of% @Go.wpList_append_own_at:=@Go.wpList_append_own_at
theorem iO:type_of% @Go.RowKit.Below.heap_alloc:=@Go.RowKit.Below.heap_alloc
theorem iP:type_of% @Go.callsIn_wide:=@Go.callsIn_wide
theorem oG:type_of% @Go.ByteArray.toList_eq:=@Go.ByteArray.toList_eq
theorem qG:type_of% @Go.results_none:=@Go.results_none
theorem qJ:type_of% @Go.Proofs.Tryz.underlying3:=@Go.Proofs.Tryz.underlying3
theorem s':type_of% @Go.plainElem_int:=@Go.plainElem_int
theorem uS:type_of% @Go.ByteArray.size_append':=@Go.ByteArray.size_append'
theorem uX:type_of% @Go.Proofs.Tryz.underlying25:=@Go.Proofs.Tryz.underlying25
theorem xE:type_of% @Go.Proofs.Tryz.underlying171:=@Go.Proofs.Tryz.underlying171
theorem zI:type_of% @Go.Proofs.Tryz.underlying79:=@Go.Proofs.Tryz.underlying79
theorem zJ:type_of% @Go.Proofs.Tryz.underlying83:=@Go.Proofs.Tryz.underlying83
theorem Cv:type_of% @Go.Proofs.Tryz.underlying285:=@Go.Proofs.Tryz.underlying285
theorem CI:type_of% @Go.Proofs.Tryz.underlying80:=@Go.Proofs.Tryz.underlying80
theorem CO:type_of% @Go.Lib.run_eql_slice_nil:=@Go.Lib.run_eql_slice_nil
theorem CP:type_of% @Go.Proofs.Tryz.underlying84:=@Go.Proofs.Tryz.underlying84
theorem CU:type_of% @Go.Calls.quiet_of_same:=@Go.Calls.quiet_of_same
theorem Ha:type_of% @Go.World.ownsRow.cellAt:=@Go.World.ownsRow.cellAt
theorem bS(h:G:=by kernel_rfl):G:=h
theorem ZbZ(h:G:=by rw[hW];clear hW;have ds:=q8 eL;refine(HP W eL).I ? _;clear eL HP;rintro e w1 ⟨rfl,h1⟩;have kA1:=h1.at kA (λf=>uN);have kB1:=h1.at kB (λf=>uN);have a1:=z7 kA1 1;obtain⟨b2,b3⟩:=db kB1 2 3;obtain⟨H1,cw⟩:=bM h1 (cW.DX ds h1);clear h1 kA kB kA1 kB1;go_wp2_with fail;refine(HR w1 Fp cw (λk hk e=>HH.d k e hk)).I ? _;rintro e w2 ⟨rfl,h2⟩;have H2:=q8 h2;clear h2 a1 b2 b3 HR cw;go_wp2_with(go_at_call 80;refine(Hk _ _).I ? _;rintro e w' ⟨rfl,rfl⟩);exact ZmC):G:=h
theorem bW(h:G:=by go_num):G:=h
theorem Zgw(h:G:=by intro v' w1 c9 fC Eb cu;obtain⟨HO,HG⟩:=bM c9 fC;clear c9 fC Eb cu hq hi cQ cz cE;go_wp2_with fail;go_ret;refine⟨v',rfl,? _,Zef⟩;exact ZdJ):G:=h
theorem ZpJ(h:G:=by subst pe;rw[ZT HL.o]at hw;have tQ:=q8 hw;clear hw;go_wp2_with fail;go_ret;exact⟨b1,_,rfl,qf,HX,tQ⟩):G:=h
theorem TV(h:G:=by go_wp2;go_ret;exact Yn H hm (cj _) ((rr w).drew)):G:=h
theorem Uc(h:G:=by go_wp2;go_ret;exact⟨rfl,HX⟩):G:=h
theorem ZcC(h:G:=by go_wp2_with fail;go_ret2;exact⟨rfl,qt1 H (cw.alloc _)⟩):G:=h
theorem ZhA(h:G:=by go_wp2_with(go_at_call 80;refine(Hk _ _).I ? _;rintro e w' ⟨rfl,rfl⟩);go_ret;exact⟨rfl,dY⟩):G:=h
theorem ZcM(h:G:=by go_wp2_with fail;go_ret;exact⟨rfl,(rr w).drew⟩):G:=h
theorem ZpR(h:G:=by rintro e w2 ⟨rfl,n,os,rfl⟩;go_wp2_with fail;go_ret;exact⟨rfl,(HX.drewN n).grow os⟩):G:=h
theorem ZhS(h:G:=by clear hw;go_enter func165,ntmps165;go_wp2;go_ret;rw[HT.o];exact⟨rfl,0,rfl⟩):G:=h
theorem UD(h:G:=by intro w;go_simp):G:=h
theorem ZjK(h:G:=by go_wp2_with fail;go_ret;rw[<-pk.o];exact⟨rfl,m,rfl⟩):G:=h
theorem ZkK(h:G:=by go_wp2;go_ret;exact⟨tt (by simp[h1]),rfl⟩):G:=h
theorem ZdH(h:G:=by obtain⟨p,hp⟩:∃p,(X2 k ps)[j]?=some p:=⟨_,bZ ct⟩;obtain⟨g,c,rfl,eZ,hU,nY,ew⟩:=jw.o j p hp;rw[<-HE.o.cell (p:=(aD g j)) eZ (λe=>nX.o g e hU)]at nY;have ZbX:GB U V (cB true T ((X2 k ps).take j)) (cB false A ((X2 k ps).take j)):=pB.o.cB (λz hz=>fK.o z Zgu) (λz hz=>lz.o z Zgu);obtain⟨HC,HP⟩:=bM (gD.o p (cm hp) wr x1 _ _ c HW.o (ew.ext HE.o (λq _ hd e=>nX.o q e hd)) ZbX) hp;clear hp ew eZ hU ZbX;go_wp2_with fail;refine HC.o.I ? _;rintro e w2 ⟨rfl,Zgs⟩;obtain⟨cI,x2,hW2,ZbY⟩:=Zgs;obtain⟨bT,tQ,Zgr⟩:=bV cI hW2 ZbY;clear cI hW2 ZbY HC;go_wp2_with fail;go_roundw;(case measure=>exact ch);case rel=>refine⟨j+1,x2,bH,bW,HE.o.z' bT.o (λi hi e=>(pG.o i e).elim id (λe=>bH)),? _,λq hq=>? _⟩;{exact Zqd};exact ZpM):G:=h
theorem ZkT(h:G:=by clear dB;obtain⟨j,l',hj,rfl,gP⟩:=hrel;have dB:=q8 gP;obtain⟨va,vc,zp,_⟩:=SR.shape gP.2.1;subst zp;have kb:=(gP.1.block _ (j9 eE.o) (λe=>eD.o _ e kE.o)).z eE.o;have d1:=z7 kb 1;clear gP kb;by_cases ct:j<(X2 k ps).length;{obtain⟨p,hp⟩:∃p,(X2 k ps)[j]?=some p:=⟨_,bZ ct⟩;obtain⟨g,cb,rfl,eZ,hU,nY,ew⟩:=jw.o j p hp;rw[<-dB.o.1.cell (p:=(aD g j)) eZ (λe=>eD.o _ e hU)]at nY;have HC:=q8 (gD.o p (cm hp) wr D cb _ l' (ew.ext dB.o.1 (λq _ hd e=>eD.o q e hd)) (λq hq=>cC (iy.o q hq) dB.o.1.size) dB.o.2.1 (λq hq hd=>(dB.o.2.2.2.2 q hq).elim (λe=>eD.o q e hd) (λe=>ZgB)) ZpK);have HP:=q8 hp;clear hp ew eZ hU;go_wp2_with fail;refine HC.o.I ? _;rintro e w2 oE;obtain⟨v2,l2,rfl,rH⟩:=Bn dB.o oE;have zo:=q8 rH;clear oE rH HC;go_wp2_with fail;go_roundw;(case measure=>exact ch);case rel=>exact⟨j+1,l2,bH,bW,ZpX⟩};go_wp2_with fail;go_ret;refine⟨_,l',rfl,? _⟩;have h1:=dB.o;rw[cZ bH,gg.o.1 true]at h1;exact Zhe):G:=h
theorem ZkZ(h:G:=by have Ds:(e==0)=false:=uJ;have c4:=jG.c4;obtain⟨qS,js,lY⟩:=bV jG jr lV;have Dp:f.size<=400000:=bH;clear jG lV jr;go_wp2_with(go_at_call 199;refine(V4 _ qS eW).I ? _;rintro e w' ⟨rfl,m3,rfl⟩);go_ret;rw[js.o];exact U4 (w5:=wr.drewN m3) (HE.drewN _) dG dD eU KB (qS.drewN _) eW Vl):G:=h
theorem xB(h:G:=by simp[U7]at h;subst h;exact bS):G:=h
theorem Zla(h:G:=by clear hp ew gP h3 h4 ht hs;go_wp2_with fail;refine BA.I ? _;rintro e w1 ⟨rfl,m2,rfl⟩;go_wp2_with fail;refine(HA _).I ? _;rintro e w1 ⟨rfl,rfl⟩;go_wp2_with fail;go_roundw;(case measure=>exact ch);case rel=>exact⟨j+1,m+m2,bH,bW,by rw[HS.o],Zcg⟩):G:=h
theorem ZdI(h:G:=by have nR:=q8 ir;clear ir wM;go_wp2_with fail;go_roundw;(case measure=>exact ch);case rel=>exact⟨k+1,bH,bW,ZpN,ZpQ⟩):G:=h
theorem Zlb(h:G:=by cases ob;all_goals go_wp2_with(go_at_call 165;refine mQ.I ? _;rintro e w1 ⟨rfl,m1,rfl⟩);go_roundw;(case measure=>exact ch);case rel=>refine⟨q+1,m+m1,bH,bW,by rw[HAN.o];rfl,Zcg,λy hy=>? _⟩;exact ZpP):G:=h
theorem Zlk(h:G:=by refine⟨1,bH,bW,(HX.z' ((q9.refl (λk=>k=w.heap.size) wr).sc w.heap.size 0 _) (λi hi e=>fS)).drew,? _,? _,? _⟩;{exact X6 K0 0 _};{exact Zcb};exact Zcc):G:=h
theorem Zll(h:G:=by refine⟨2,bH,bW,(HX.z' ((q9.refl (λk=>k=w.heap.size) wr).sc w.heap.size 1 _) (λi hi e=>fS)).drew,? _,? _,? _⟩;{exact X6 K0 1 _};{exact Zcb};exact Zcc):G:=h
theorem Zlm(h:G:=by refine⟨3,bH,bW,(HX.z' ((q9.refl (λk=>k=w.heap.size) wr).sc w.heap.size 2 _) (λi hi e=>fS)).drew,? _,? _,? _⟩;{exact X6 K0 2 _};{exact Zcb};exact Zcc):G:=h
theorem Zlu(h:G:=by exact⟨j+1,bH,bW,(HX.z' ((q9.refl (λk=>k=b1) wr).sc b1 j _) (λi hi e=>ZcT)).drew,WS.ext ZV ((eR _).drew) id⟩):G:=h
theorem Zly(h:G:=by go_enter func156,ntmps156;go_wp2_with fail;refine(Tryz.strconv_Itoa v bH bH _ HT).I ? _;exact ZpR):G:=h
theorem ZlA(h:G:=by go_wp2_with fail;go_roundw;(case measure=>exact ch);case rel=>exact⟨j+1,bH,bW,by simpa using DE,pk⟩):G:=h
theorem ZdS(h:G:=by go_enter func74,ntmps74;exact Uc):G:=h
theorem Zea(h:G:=by rw[fT,bO bS];rfl):G:=h
theorem Zeb(h:G:=by have pe:j=l.length:=bH;exact ZpJ):G:=h
theorem ZmC(h:G:=by go_ret;exact⟨rfl,HH.two ds H1 (rr _) H2 (rr _)⟩):G:=h
theorem ZmR(h:G:=by clear dB;obtain⟨j,l',hj,rfl,gP⟩:=hrel;have dB:=q8 gP;obtain⟨va,vc,zp,_⟩:=SR.shape gP.2.1;subst zp;have kb:=(gP.1.block _ (j9 eE.o) (λe=>eD.o _ e kE.o)).z eE.o;have d1:=z7 kb 1;clear gP kb;by_cases ct:j<(X2 k ps).length;{obtain⟨p,hp⟩:∃p,(X2 k ps)[j]?=some p:=⟨_,bZ ct⟩;obtain⟨g,cb,rfl,eZ,hU,nY,ew⟩:=jw.o j p hp;rw[<-dB.o.1.cell (p:=(aD g j)) eZ (λe=>eD.o _ e hU)]at nY;have HC:=q8 (gD.o p (cm hp) wr D cb _ l' (ew.ext dB.o.1 (λq _ hd e=>eD.o q e hd)) (λq hq=>cC (iy.o q hq) dB.o.1.size) dB.o.2.1 (λq hq hd=>(dB.o.2.2.2.2 q hq).elim (λe=>eD.o q e hd) (λe=>ZgB)) ZpC);have HP:=q8 hp;clear hp ew eZ hU;go_wp2_with fail;refine HC.o.I ? _;rintro e w2 oE;obtain⟨v2,l2,rfl,rH⟩:=Bn dB.o oE;have zo:=q8 rH;clear oE rH HC;go_wp2_with fail;go_roundw;(case measure=>exact ch);case rel=>exact⟨j+1,l2,bH,bW,ZpE⟩};go_wp2_with fail;go_ret;refine⟨_,l',rfl,? _⟩;have h1:=dB.o;rw[cZ bH,gg.o.1 false]at h1;exact Zhe):G:=h
theorem Zeh(h:G:=by go_wp2_with fail;go_ret;exact lN):G:=h
end Go.Proofs.YtegbdaffhpiacaaGreatDoor
