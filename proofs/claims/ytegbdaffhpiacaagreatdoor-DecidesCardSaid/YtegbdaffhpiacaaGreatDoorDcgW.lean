/- Part. -/
import Derived.Test.YtegbdaffhpiacaaGreatDoorDcgP
import Derived.Test.YtegbdaffhpiacaaGreatDoorProg
import Derived.Below
import Derived.BigQuiet
import Derived.Deep.QuietTactic
import Derived.WalkKit
import Derived.WalkLawsBesides
import Derived.WalkSpells
namespace Go.Proofs.YtegbdaffhpiacaaGreatDoor
open Go.RowKit Tryz
abbrev ad(a:Array Value)(n:TypeId):Option Obj:=some (.cells a n)
abbrev af:Value:=.bool false
abbrev ah:Value:=.bool true
abbrev ai(x:ByteArray):Value:=.string x
abbrev aj:=Nat->Prop
abbrev ak:=List Value
abbrev ao:=World
abbrev au:=Value
abbrev ax:=ByteArray
abbrev ay:=ByteArray.empty
abbrev az(b n c:Nat):Value:=.slice (some ⟨b,0,none⟩) n c
variable{G:Prop}
theorem aN:type_of% @Go.heap_alloc_new:=@Go.heap_alloc_new
theorem a6:type_of% @Go.bodyPost_ret:=@Go.bodyPost_ret
theorem bE:type_of% @Go.callsIn_wide:=@Go.callsIn_wide
theorem bJ:type_of% @Go.info_parts:=@Go.info_parts
theorem bP:type_of% @Go.heap_alloc_old:=@Go.heap_alloc_old
theorem dY:type_of% @Go.wpList_append_own_at:=@Go.wpList_append_own_at
theorem fu:type_of% @Go.World.ownsRow_nil:=@Go.World.ownsRow_nil
theorem gL:type_of% @Go.RowKit.Below.heap_alloc:=@Go.RowKit.Below.heap_alloc
theorem mz:type_of% @Go.ByteArray.toList_eq:=@Go.ByteArray.toList_eq
theorem pD:type_of% @Go.results_none:=@Go.results_none
theorem qE:type_of% @Go.Proofs.Tryz.underlying3:=@Go.Proofs.Tryz.underlying3
theorem tK:type_of% @Go.Proofs.Tryz.underlying285:=@Go.Proofs.Tryz.underlying285
theorem tM:type_of% @Go.Proofs.Tryz.underlying171:=@Go.Proofs.Tryz.underlying171
theorem tR:type_of% @Go.plainElem_int:=@Go.plainElem_int
theorem yL:type_of% @Go.Proofs.Tryz.underlying79:=@Go.Proofs.Tryz.underlying79
theorem yM:type_of% @Go.Proofs.Tryz.underlying83:=@Go.Proofs.Tryz.underlying83
theorem yO:type_of% @Go.Proofs.Tryz.underlying238:=@Go.Proofs.Tryz.underlying238
theorem BP:type_of% @Go.Proofs.Tryz.underlying80:=@Go.Proofs.Tryz.underlying80
theorem BQ:type_of% @Go.Proofs.Tryz.underlying84:=@Go.Proofs.Tryz.underlying84
theorem BR:type_of% @Go.Calls.quiet_of_same:=@Go.Calls.quiet_of_same
theorem Ff:type_of% @Go.ByteArray.size_append':=@Go.ByteArray.size_append'
theorem Fo:type_of% @Go.Lib.run_eql_slice_nil:=@Go.Lib.run_eql_slice_nil
theorem Ft:type_of% @Go.World.ownsRow.alloc:=@Go.World.ownsRow.alloc
theorem Fv:type_of% @Go.World.ownsRow.cellAt:=@Go.World.ownsRow.cellAt
theorem gJ(h:G:=by refine wpAnyIn_ready (rs:=[11]) aG aC ?_;refine .cons rfl (λK hK=>?_) ?_;{go_simp;refine hK _ _ ?_;clear hK K;refine wpAnyIn_done aG ?_ _;exact HQ _ _ _ _ _ bA eF};exact bj):G:=h
theorem Zbk(h:G:=by rw[hW];clear hW;have cR:=q8 kX;refine(HP W kX).mono ?_;clear kX HP;rintro e w1 ⟨rfl,h1⟩;have kA1:=h1.at kA (λf=>tE);have kB1:=h1.at kB (λf=>tE);have a1:=z7 kA1 1;obtain⟨b2,b3⟩:=cz kB1 2 3;obtain⟨H1,bG⟩:=aH h1 (cO.CE cR h1);clear h1 kA kB kA1 kB1;go_wp2_with fail;refine(HR w1 Fp bG (λk hk e=>HH.d k e hk)).mono ?_;rintro e w2 ⟨rfl,h2⟩;have H2:=q8 h2;clear h2 a1 b2 b3 HR bG;go_wp2_with(go_at_call 80;refine(LO _ _).mono ?_;rintro e w' ⟨rfl,rfl⟩);exact ZjJ):G:=h
theorem aS(h:G:=by go_num):G:=h
theorem Zbl(h:G:=by(go_wp2_with first|(go_at_call 107;refine(V6 H).mono ?_;rintro en w1 ⟨rfl,dC⟩;have bG:=q8 dC;clear dC)|(go_at_call 110;refine(pI _ (H.new bG)).mono ?_;rintro en w2 ⟨rfl,dD,gR⟩;have aR:=q8 dD;have ch:=q8 gR;clear dD gR));go_ret;exact⟨rfl,(bG.M).trans aR,ch⟩):G:=h
theorem iz(h:G:=by intro w;go_simp):G:=h
theorem vY(h:G:=by simp[U7]at h;subst h;exact aG):G:=h
theorem ZfB(h:G:=by intro v' w1 ck lF CU aV;obtain⟨HO,HG⟩:=aH ck lF;clear ck lF CU aV hq hi cA cg cq;go_wp2_with fail;go_ret;refine⟨v',rfl,?_,by simpa using HO.o⟩;exact Zjj):G:=h
theorem ZfC(h:G:=by go_wp2;go_quiet (fail);go_wp2;go_ret;refine⟨i,_,_,rfl,by rw[Hf lj];exact HI,?_,?_,?_,λk hk=>.inl hk,λk hk=>.inl hk⟩;{exact((Hj.drewN nq).block sb cC id).trans KB};{rw[Hf lj];exact H.ext (Hj.drewN nq) (λ_ _ f=>f) (λ_ _ f=>f)};exact(Hj.drewN nq).M):G:=h
theorem Zma(h:G:=by subst mT;rw[Wk HL.o]at hw;have sF:=q8 hw;clear hw;go_wp2_with fail;go_ret;exact⟨b1,_,rfl,qV,HX,sF⟩):G:=h
theorem RM(h:G:=by go_wp2;go_ret;exact zW7 H hm (aW _) ((rr w).drew)):G:=h
theorem ZfX(h:G:=by go_wp2_with fail;refine HC.mono ?_;rintro e w1 ⟨v',rfl,h1,h2⟩;obtain⟨H1,H2⟩:=aH h1 h2;clear h1 h2;go_wp2_with fail;go_ret;exact⟨v',rfl,H1,H2⟩):G:=h
theorem Zbx(h:G:=by go_wp2;all_goals go_ret;refine⟨?_,rfl⟩;first|(rfl)|(apply r';simp_all;done)):G:=h
theorem ZfY(h:G:=by go_wp2_with(go_at_call 161;refine(J4 H).mono ?_;rintro e w' ⟨rfl,m,rfl⟩);exact Zjr):G:=h
theorem Zby(h:G:=by go_ret;exact⟨rfl,(rr w).alloc _⟩):G:=h
theorem ZbG(h:G:=by go_enter func74,ntmps74;go_wp2;exact SW):G:=h
theorem ZbM(h:G:=by go_wp2_with fail;go_ret2;exact⟨rfl,qt1 H (bG.alloc _)⟩):G:=h
theorem ZbS(h:G:=by go_wp2_with fail;go_ret;exact⟨rfl,(rr w).drew⟩):G:=h
theorem Zmh(h:G:=by rintro e w2 ⟨rfl,n,os,rfl⟩;go_wp2_with fail;go_ret;exact⟨rfl,(HX.drewN n).grow os⟩):G:=h
theorem ZgC(h:G:=by clear hw;go_enter func165,ntmps165;go_wp2;go_ret;rw[HT.o];exact⟨rfl,0,rfl⟩):G:=h
theorem ZbW(h:G:=by rw[Y0,aJ aG];rfl):G:=h
theorem ZhZ(h:G:=by go_wp2_with fail;go_ret;rw[<-lY.o];exact⟨rfl,m,rfl⟩):G:=h
theorem Zi7(h:G:=by go_wp2_with fail;go_ret;exact⟨_,rfl,q9.refl _ _,H⟩):G:=h
theorem ZiI(h:G:=by go_wp2;go_ret;exact⟨r' (by simp[h1]),rfl⟩):G:=h
theorem yC(h:G:=by clear bT;obtain⟨j,l',hj,rfl,fE⟩:=hrel;have bT:=q8 fE;obtain⟨va,vc,yp,_⟩:=SR.shape fE.2.1;subst yp;have kb:=(fE.1.block _ (j9 du.o) (λe=>dv.o _ e jg.o)).trans du.o;have d1:=z7 kb 1;clear fE kb;by_cases aZ:j<(X2 k ps).length;{obtain⟨p,hp⟩:∃p,(X2 k ps)[j]?=some p:=⟨_,aU aZ⟩;obtain⟨g,cb,rfl,ds,gI,tx,dW⟩:=iv.o j p hp;rw[<-bT.o.1.cell (p:=(aD g j)) ds (λe=>dv.o _ e gI)]at tx;have HC:=q8 (fk.o p (bg hp) wr D cb _ l' (dW.ext bT.o.1 (λq _ hd e=>dv.o q e hd)) (λq hq=>bD (fX.o q hq) bT.o.1.size) bT.o.2.1 (λq hq hd=>(bT.o.2.2.2.2 q hq).elim (λe=>dv.o q e hd) (λe=>ZfG)) Zm4);have HP:=q8 hp;clear hp dW ds gI;go_wp2_with fail;refine HC.o.mono ?_;rintro e w2 np;obtain⟨v2,l2,rfl,qu⟩:=Ac bT.o np;have yo:=q8 qu;clear np qu HC;go_wp2_with fail;go_roundw;(case measure=>exact bf);case rel=>exact⟨j+1,l2,aA,aS,Zm8⟩};go_wp2_with fail;go_ret;refine⟨_,l',rfl,?_⟩;have h1:=bT.o;rw[cj aA,eK.o.1 false]at h1;exact Zg5):G:=h
theorem Le(h:G:=by go_wp2_with fail;go_loopw [2,9](λvv i wr=>∃(j:Nat)(l':List ByteArray),j<=(X2 k ps).length/\i=iI j/\PM w (.slice la l.length lc) l ([]++z8 true ((X2 k ps).take j)) vv l' wr)(λ_ i _=>(X2 k ps).length-(intOf i).toNat);(case atStart=>exact qv);case round=>clear bT;obtain⟨j,l',hj,rfl,fE⟩:=hrel;have bT:=q8 fE;obtain⟨va,vc,yp,_⟩:=SR.shape fE.2.1;subst yp;have kb:=(fE.1.block _ (j9 du) (λe=>dv _ e jg)).trans du;have d1:=z7 kb 1;clear fE kb;by_cases aZ:j<(X2 k ps).length;{obtain⟨p,hp⟩:∃p,(X2 k ps)[j]?=some p:=⟨_,aU aZ⟩;obtain⟨g,cb,rfl,ds,gI,tx,dW⟩:=iv j p hp;rw[<-bT.o.1.cell (p:=(aD g j)) ds (λe=>dv.o _ e gI)]at tx;have HC:=q8 (fk p (bg hp) wr D cb _ l' (dW.ext bT.1 (λq _ hd e=>dv q e hd)) (λq hq=>bD (fX q hq) bT.1.size) bT.2.1 (λq hq hd=>(bT.2.2.2.2 q hq).elim (λe=>dv q e hd) (λe=>Zg3)) Zm6);have HP:=q8 hp;clear hp dW ds gI;go_wp2_with fail;refine HC.mono ?_;rintro e w2 np;obtain⟨v2,l2,rfl,qu⟩:=Ac bT np;have yo:=q8 qu;clear np qu HC;go_wp2_with fail;go_roundw;(case measure=>exact bf);case rel=>exact⟨j+1,l2,aA,aS,Zm9⟩};go_wp2_with fail;go_ret;refine⟨_,l',rfl,?_⟩;have h1:=bT.o;rw[cj aA,eK.o.1 true]at h1;exact Zgx):G:=h
theorem aG(h:G:=by kernel_rfl):G:=h
theorem ZiQ(h:G:=by cases hq:(v.aB.toList==[41])with|true=>(have jA:J5 (List.replicate 2 (Z8 c.N n (d+1))) aP=.ok ps (v::vs):=ZfM;have ir:=q8 jA;clear jA;(go_wp2_with first|(go_at_call 199;refine(l9 iE.o hq aA).mono ?_;rintro e w5 ⟨rfl,hx,hr⟩;have bm:q9 (·=c.rb) wr w5:=hx;have k5:w5.heap[w.heap.size]?=some (.cells #[.string u.aB,.slice a j cap,iI 0,.bool false,.string f] 235):=(bm.block _ (j9 KB.o) bR).trans KB.o;obtain⟨lI,f54⟩:=cI k5 4 4;obtain⟨K5,eB,nM⟩:=aQ k5 bm hr;clear k5 hx hr bm));go_ret;have bm:=eB.o;have fe:q9 (·=w.heap.size) w5 (w5.setCell (aD w.heap.size 4) (.string (f++⟨#[41]⟩))):=(q9.refl (·=w.heap.size) w5).sc w.heap.size 4 _;have kW:=X6 K5.o 4 (.string (f++⟨#[41]⟩));have hr:=nM.o.ext fe eG eH eW;rw[show d+1-1=d from aA]at hr;rw[ir.o,Z5,U0,aJ jG];have g1:=iu.o;have g4:(ByteArray.mk #[41]).size=1:=rfl;refine⟨w.heap.size,_,_,_,_,_,rfl,aW _,(HE.o.trans bm).trans' fe (λi hi e=>aA),kW,?_,hr,?_⟩;{exact Zbp};exact Zde)|false=>have jA:J5 (List.replicate 2 (Z8 c.N n (d+1))) aP=.ok ps (v::vs):=ZfM;have ir:=q8 jA;clear jA;have HQ:Hid ((v.aB.toList==(ByteArray.mk #[41]).toList)=false):=Bq;(go_wp2_with first|(go_at_call 199;refine(uh _ iE.o HQ.o).mono ?_;rintro e w5 ⟨rfl,hx,hr⟩;have k5:w5.heap[w.heap.size]?=some (.cells #[.string u.aB,.slice a j cap,iI 0,.bool false,.string f] 235):=(hx.block _ (j9 KB.o) bR).trans KB.o;obtain⟨lI,f54⟩:=cI k5 4 4;obtain⟨K5,eB,nM⟩:=aQ k5 hx hr;clear k5 hx hr));go_ret;have g1:=iu.o;have Mm:Z5 2 1 u.aB (J5 (List.replicate 2 (Z8 c.N n (d+1))) aP)=.no 2 v.pos:=Zk1;rw[Mm];exact U4 (HE.o.trans eB.o) bV bW cJ K5.o nM.o aE Zdh):G:=h
theorem ZcI(h:G:=by obtain⟨p,hp⟩:∃p,(X2 k ps)[j]?=some p:=⟨_,aU aZ⟩;obtain⟨g,c,rfl,ds,gI,tx,dW⟩:=iv.o j p hp;rw[<-HE.o.cell (p:=(aD g j)) ds (λe=>mL.o g e gI)]at tx;have Zbi:GB U V (bo true T ((X2 k ps).take j)) (bo false A ((X2 k ps).take j)):=n'.o.bo (λz hz=>dV.o z ZfA) (λz hz=>jP.o z ZfA);obtain⟨HC,HP⟩:=aH (fk.o p (bg hp) wr x1 _ _ c HW.o (dW.ext HE.o (λq _ hd e=>mL.o q e hd)) Zbi) hp;clear hp dW ds gI Zbi;go_wp2_with fail;refine HC.o.mono ?_;rintro e w2 ⟨rfl,Zfw⟩;obtain⟨dD,x2,hW2,Zbj⟩:=Zfw;obtain⟨aR,sF,Zfv⟩:=aQ dD hW2 Zbj;clear dD hW2 Zbj HC;go_wp2_with fail;go_roundw;(case measure=>exact bf);case rel=>refine⟨j+1,x2,aA,aS,HE.o.trans' aR.o (λi hi e=>(oe.o i e).elim id (λe=>aA)),?_,λq hq=>?_⟩;{exact Zmp};exact Zmd):G:=h
theorem ZiR(h:G:=by cases hq:(v.aB.toList==[41])with|true=>(have jA:Y8 n (Z8 c.N n (d+1)) aP=.ok ps (v::vs):=by{rw[jJ.o,Gi.o];exact Tf jG};have ir:=q8 jA;clear jA;(go_wp2_with first|(go_at_call 161;refine(J4 iE.o).mono ?_;rintro e w' ⟨rfl,m2,rfl⟩)|(go_at_call 199;refine(l9 (iE.o.drewN m2) hq aA).mono ?_;rintro e w5 ⟨rfl,hx,hr⟩;have bm:q9 (·=c.rb) wr w5:=((rr wr).drewN m2).trans hx;have k5:w5.heap[w.heap.size]?=some (.cells #[.string u.aB,.slice a j cap,iI 0,.bool false,.string f] 235):=(bm.block _ (j9 KB.o) bR).trans KB.o;obtain⟨lI,f54⟩:=cI k5 4 4;obtain⟨K5,eB,nM⟩:=aQ k5 bm hr;clear k5 hx hr bm));go_ret;have bm:=eB.o;have fe:q9 (·=w.heap.size) w5 (w5.setCell (aD w.heap.size 4) (.string (f++⟨#[41]⟩))):=(q9.refl (·=w.heap.size) w5).sc w.heap.size 4 _;have kW:=X6 K5.o 4 (.string (f++⟨#[41]⟩));have hr:=nM.o.ext fe eG eH eW;rw[show d+1-1=d from aA]at hr;rw[ir.o,Z5,U0,aJ jG];have g1:=iu.o;have g4:(ByteArray.mk #[41]).size=1:=rfl;refine⟨w.heap.size,_,_,_,_,_,rfl,aW _,(HE.o.trans bm).trans' fe (λi hi e=>aA),kW,?_,hr,?_⟩;{exact Zbp};exact Zde)|false=>exact absurd hq aZ):G:=h
theorem Lf(h:G:=by have uy:(e==0)=false:=rN;have c4:=c8.c4;obtain⟨iE,Zfx,gA⟩:=aQ c8 uE iT;have uw:f.size<=400000:=aA;clear c8 iT uE;go_wp2_with(go_at_call 199;refine(V4 _ iE cF).mono ?_;rintro e w' ⟨rfl,m3,rfl⟩);go_ret;rw[Zfx.o];exact U4 (w5:=wr.drewN m3) (HE.drewN _) bV bW cJ KB (iE.drewN _) cF yD):G:=h
theorem ZiS(h:G:=by go_wp2_with fail;go_loopw [2,9](λvv i wr=>∃(j:Nat)(l':List ByteArray),j<=(X2 k ps).length/\i=iI j/\PM w (.slice la l.length lc) l ([]++z8 false ((X2 k ps).take j)) vv l' wr)(λ_ i _=>(X2 k ps).length-(intOf i).toNat);(case atStart=>exact qv);case round=>clear bT;obtain⟨j,l',hj,rfl,fE⟩:=hrel;have bT:=q8 fE;obtain⟨va,vc,yp,_⟩:=SR.shape fE.2.1;subst yp;have kb:=(fE.1.block _ (j9 du) (λe=>dv _ e jg)).trans du;have d1:=z7 kb 1;clear fE kb;by_cases aZ:j<(X2 k ps).length;{obtain⟨p,hp⟩:∃p,(X2 k ps)[j]?=some p:=⟨_,aU aZ⟩;obtain⟨g,cb,rfl,ds,gI,tx,dW⟩:=iv j p hp;rw[<-bT.o.1.cell (p:=(aD g j)) ds (λe=>dv.o _ e gI)]at tx;have HC:=q8 (fk p (bg hp) wr D cb _ l' (dW.ext bT.1 (λq _ hd e=>dv q e hd)) (λq hq=>bD (fX q hq) bT.1.size) bT.2.1 (λq hq hd=>(bT.2.2.2.2 q hq).elim (λe=>dv q e hd) (λe=>Zg3)) Zmc);have HP:=q8 hp;clear hp dW ds gI;go_wp2_with fail;refine HC.mono ?_;rintro e w2 np;obtain⟨v2,l2,rfl,qu⟩:=Ac bT np;have yo:=q8 qu;clear np qu HC;go_wp2_with fail;go_roundw;(case measure=>exact bf);case rel=>exact⟨j+1,l2,aA,aS,Zmm⟩};go_wp2_with fail;go_ret;refine⟨_,l',rfl,?_⟩;have h1:=bT.o;rw[cj aA,eK.o.1 false]at h1;exact Zgx):G:=h
theorem ZiT(h:G:=by clear bT;obtain⟨j,l',hj,rfl,fE⟩:=hrel;have bT:=q8 fE;obtain⟨va,vc,yp,_⟩:=SR.shape fE.2.1;subst yp;have kb:=(fE.1.block _ (j9 du.o) (λe=>dv.o _ e jg.o)).trans du.o;have d1:=z7 kb 1;clear fE kb;by_cases aZ:j<(X2 k ps).length;{obtain⟨p,hp⟩:∃p,(X2 k ps)[j]?=some p:=⟨_,aU aZ⟩;obtain⟨g,cb,rfl,ds,gI,tx,dW⟩:=iv.o j p hp;rw[<-bT.o.1.cell (p:=(aD g j)) ds (λe=>dv.o _ e gI)]at tx;have HC:=q8 (fk.o p (bg hp) wr D cb _ l' (dW.ext bT.o.1 (λq _ hd e=>dv.o q e hd)) (λq hq=>bD (fX.o q hq) bT.o.1.size) bT.o.2.1 (λq hq hd=>(bT.o.2.2.2.2 q hq).elim (λe=>dv.o q e hd) (λe=>ZfG)) Zmb);have HP:=q8 hp;clear hp dW ds gI;go_wp2_with fail;refine HC.o.mono ?_;rintro e w2 np;obtain⟨v2,l2,rfl,qu⟩:=Ac bT.o np;have yo:=q8 qu;clear np qu HC;go_wp2_with fail;go_roundw;(case measure=>exact bf);case rel=>exact⟨j+1,l2,aA,aS,Zmk⟩};go_wp2_with fail;go_ret;refine⟨_,l',rfl,?_⟩;have h1:=bT.o;rw[cj aA,eK.o.1 true]at h1;exact Zg5):G:=h
theorem ZiX(h:G:=by clear hp dW fE h3 h4 ht hs;go_wp2_with fail;refine Af.mono ?_;rintro e w1 ⟨rfl,m2,rfl⟩;go_wp2_with fail;refine(HA _).mono ?_;rintro e w1 ⟨rfl,rfl⟩;go_wp2_with fail;go_roundw;(case measure=>exact bf);case rel=>exact⟨j+1,m+m2,aA,aS,by rw[HS.o],Zgo⟩):G:=h
theorem ZcK(h:G:=by have jT:=q8 fU;clear fU vS;go_wp2_with fail;go_roundw;(case measure=>exact bf);case rel=>exact⟨k+1,aA,aS,Zme,Zmg⟩):G:=h
theorem Zj1(h:G:=by refine⟨1,aA,aS,(HX.trans' ((q9.refl (λk=>k=w.heap.size) wr).sc w.heap.size 0 _) (λi hi e=>fq)).drew,?_,?_,?_⟩;{exact X6 K0 0 _};{exact Zbm};exact Zbn):G:=h
theorem Zj2(h:G:=by refine⟨2,aA,aS,(HX.trans' ((q9.refl (λk=>k=w.heap.size) wr).sc w.heap.size 1 _) (λi hi e=>fq)).drew,?_,?_,?_⟩;{exact X6 K0 1 _};{exact Zbm};exact Zbn):G:=h
theorem Zj3(h:G:=by refine⟨3,aA,aS,(HX.trans' ((q9.refl (λk=>k=w.heap.size) wr).sc w.heap.size 2 _) (λi hi e=>fq)).drew,?_,?_,?_⟩;{exact X6 K0 2 _};{exact Zbm};exact Zbn):G:=h
theorem Zj4(h:G:=by refine⟨k+1,_,_,aS,rfl,aA,RH,lC,gP.o,jK.o,Or.inl ⟨aA,?_⟩⟩;rw[HC.o,cY,aJ qN.o,L2 gO,ui.o];have e0:W.toList=[]:=KQ;simp[e0]):G:=h
theorem Zj5(h:G:=by go_wp2_with(go_at_call 118;refine(pF s _ hs).mono ?_;rintro e w' ⟨rfl,hw⟩;rw[hw];clear hw w');go_ret;exact GJ H.o HC.o aE):G:=h
theorem Zj6(h:G:=by refine⟨k+1,_,_,aS,rfl,aA,RH,lC,gP.o,jK.o,Or.inl ⟨aA,?_⟩⟩;rw[HC.o,cY,aJ qN.o,(FV aA gO).1,ui.o];simp):G:=h
theorem Zj7(h:G:=by exact⟨j+1,aA,aS,(HX.trans' ((q9.refl (λk=>k=b1) wr).sc b1 j _) (λi hi e=>ZbZ)).drew,WS.ext Wm ((eR _).drew) id⟩):G:=h
theorem Zja(h:G:=by go_enter func156,ntmps156;go_wp2_with fail;refine(Tryz.strconv_Itoa v aA aA _ HT).mono ?_;exact Zmh):G:=h
theorem Lh(h:G:=by go_wp2_with fail;go_ret;exact ko):G:=h
theorem Zjc(h:G:=by go_wp2_with fail;go_roundw;(case measure=>exact bf);case rel=>exact⟨j+1,aA,aS,by simpa using Ch,lY⟩):G:=h
theorem E9(h:G:=by go_wp2;go_ret;exact ko):G:=h
theorem SS(h:G:=by go_wp2_with fail;exact Zby):G:=h
theorem ZcX(h:G:=by have mT:j=l.length:=aA;exact Zma):G:=h
theorem SW(h:G:=by go_ret;exact⟨rfl,HX⟩):G:=h
theorem ZjJ(h:G:=by go_ret;exact⟨rfl,HH.two cR H1 (rr _) H2 (rr _)⟩):G:=h
end Go.Proofs.YtegbdaffhpiacaaGreatDoor
