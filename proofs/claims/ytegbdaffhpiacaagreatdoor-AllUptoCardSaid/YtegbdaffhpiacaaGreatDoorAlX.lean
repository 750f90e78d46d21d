/- Part. -/
import Derived.Test.YtegbdaffhpiacaaGreatDoorAl00
import Derived.Test.YtegbdaffhpiacaaGreatDoorAlW
import Derived.Deep.AppendLies
import Derived.Deep.DeepHandedRow
import Derived.Deep.LoopGhost
import Derived.Deep.RegionHeld3
import Derived.Deep.RegionLaw
import Derived.Deep.RegionWith
import Derived.Deep.Strs
import Derived.Deep.WholeRow
import Derived.DeepKeys4
import Derived.Handed
import Derived.Laws.AppendOwnNone
import Derived.Laws.CopyOwn
import Derived.Laws.CopyRow
import Derived.Laws.Externs
import Derived.Laws.IdiomCopy
import Derived.Laws.MakeOwn
import Derived.Laws.OwnMore
import Derived.Lay
import Derived.Lib.AppendStr
import Derived.Lib.Builder
import Derived.Lib.ItoaNum
import Derived.Lib.LaidTab
import Derived.Lib.SliceRun
import Derived.Lib.SmallJoins
import Derived.Lib.Strings
import Derived.Lib.UnsafeStr
import Derived.LoopIn
import Derived.LoopNIn
import Derived.MakeChecks
import Derived.Maps.AppendAt
import Derived.Maps.OwnSet
import Derived.Maps.Views
import Derived.OpenShut
import Derived.OwnWalk
import Derived.OwnWalkIn
import Derived.ProofKit
import Derived.RangeFuncBound
import Derived.RangeFuncCalls
import Derived.RangeFuncLeaves
import Derived.RangeFuncNested
import Derived.ScopeJumps
import Derived.SevenTiedAt
import Derived.Sort.Grow
import Derived.Stop.Asserts
import Derived.Stop.RegionWithIn
import Derived.TacticsInMore
import Derived.WalkMore
namespace Go.Proofs.YtegbdaffhpiacaaGreatDoor
open Go.RowKit Tryz
variable{G:Prop}
theorem ZpA(h:G:=by have dD:=h.dW;have dn:=h.eV;have fV:=q8 h.iW;have dx:Hid (eX w (w.alloc (.cells #[iI 0,ag,iI 0,ae] 115))):=(rr w).alloc _;obtain⟨H0,HF⟩:=bM (h.new dx) hf;have hk:=(Ae (l:=t.bI.toList)).z ho;have qQ:t.bI.size<=maxLen:=GM;have Tw:=Hm t.bI;rw[hn]at Tw;have ZbV:=q8 Tw;clear Tw hn;clear h hf ho;cases r with|no e p=>(delta cP;go_in;(go_wp2_with first|(go_at_call 107;refine(V6 (H0.o)).I ? _;rintro en w1 ⟨rfl,dd⟩;have cw:=q8 dd;clear dd)|(go_at_call 107;refine(V6 (H0.o.new cw.o)).I ? _;rintro en w2 ⟨rfl,cI⟩;have Ce:=q8 cI;clear cI)|(go_at_call 67;refine(ZbV.o _ qQ).I ? _;rintro en w' ⟨rfl,rfl⟩));refine(HF.o _ (H0.o.new (cw.o.z Ce.o))).I ? _;rintro en w5 ⟨rC,rfl,cA,d',eu⟩;have bT:Hid (q9 (·=c.rb) (w.alloc (.cells #[iI 0,ag,iI 0,ae] 115)) w5):=((cw.o.z Ce.o).M).z rC;have kb:w5.heap[w.heap.size]?=some (.cells #[iI 0,ag,iI 0,ae] 115):=(bT.o.block _ (j9 (bR w _)) ew).z (bR w _);obtain⟨z0,z1,z2,z3,y0,y1,y2,y3⟩:=dF kb 0 1 2 3 0 1 2 3;clear kb;clear rC;go_wp2;refine cq (v:=.tuple #[.agg #[iI 0,ag,iI 0,ae],.bool false]) UU rfl ? _;exact rV dx.o bT.o eu (J9 _ _ _ _ _ _) dG dD dn fV.o)|ok nd cA=>delta cP;go_in;(go_wp2_with first|(go_at_call 107;refine(V6 (H0.o)).I ? _;rintro en w1 ⟨rfl,dd⟩;have cw:=q8 dd;clear dd)|(go_at_call 107;refine(V6 (H0.o.new cw.o)).I ? _;rintro en w2 ⟨rfl,cI⟩;have Ce:=q8 cI;clear cI)|(go_at_call 67;refine(ZbV.o _ qQ).I ? _;rintro en w' ⟨rfl,rfl⟩));refine(HF.o _ (H0.o.new (cw.o.z Ce.o))).I ? _;rintro en w5 ⟨rC,k,wd,v,sa,sn,sc,rfl,hn,eu⟩;have bT:Hid (q9 (·=c.rb) (w.alloc (.cells #[iI 0,ag,iI 0,ae] 115)) w5):=((cw.o.z Ce.o).M).z rC;have kb:w5.heap[w.heap.size]?=some (.cells #[iI 0,ag,iI 0,ae] 115):=(bT.o.block _ (j9 (bR w _)) ew).z (bR w _);obtain⟨z0,z1,z2,z3,y0,y1,y2,y3⟩:=dF kb 0 1 2 3 0 1 2 3;clear kb;have jI:=(cw.o.z Ce.o).size;have kh:=q8 (hn.I (D':=λk=>w.heap.size<k) (λk _ hk=>by have h1:w2.heap.size<=k:=hk;simp at jI;exact Vj));clear rC hn jI;go_wp2;refine cq (v:=.tuple #[.agg #[iI k,.string wd,iI v,.slice sa sn sc],.bool true]) UU rfl ? _;exact tF dx.o bT.o eu kh.o (J9 _ _ _ _ _ _) dG dD dn fV.o):G:=h
theorem Zgt(h:G:=by delta cP;go_in;go_wp2;refine HC.I ? _;rintro en w1 ⟨dd,hp⟩;rw[HUS.o]at hp;obtain⟨k,wd,v,sa,sn,sc,rfl,od⟩:=hp;obtain⟨cw,kh⟩:=bM dd od;have k1:=(dd.block _ dn id).z KB;obtain⟨d7,d8⟩:=db k1 7 8;clear dd od HC c7 c8;go_wp2;obtain⟨V,eC⟩:∃V,w1.alloc (.cells #[iI k,.string wd,iI v,.slice sa sn sc] 115)=V:=⟨_,rfl⟩;have qu:eX w1 V:=by{rw[<-eC];exact Cr};have kV:V.heap[w1.heap.size]?=some (.cells #[iI k,.string wd,iI v,.slice sa sn sc] 115):=by{rw[<-eC];exact xC};rw[eC];have e8:=z7 (qu.K k1) 8;obtain⟨n0,n1,n2,n3⟩:=dR kV 0 1 2 3;have fO:Hid (eX W V):=cw.z qu;obtain⟨Dm,m1,m2,m3⟩:=HM.o;have lG:=q8 (HV V.drew (λx=>W.heap.size<=x) k wd v sa sn sc (kh.ext qu.drew (λ_ _ _ f=>f)) ⟨Dm,J8 m1 fO.drew id,m2,m3⟩);clear eC qu kV k1 d7 d8 m1 m2 m3;go_region_law (go_simp;go_wp2_with(go_at_call 115;refine lG.I ? _;rintro e w2 ⟨rfl,cI⟩;have bT:=q8 cI;clear cI));all_goals go_wp2;refine cq (v:=.tuple #[iI (ff (gO T u) nd),iI 0,iI 0]) UY rfl ? _;exact⟨rfl,fO.drew.z bT⟩):G:=h
theorem ZpB(h:G:=by subst hv;obtain⟨QF,qt⟩:=hc;unfold maxLen at qt;clear h;cases a with|none=>(have hm0:m=0:=by{rcases H.o.2 with⟨e,e0⟩|⟨g,cap,cur,hv,_⟩;{exact e0};cases hv};subst hm0;have Kg:cap=0:=by{rcases H.o.2 with⟨e,e0⟩|⟨g,cap,cur,hv,_⟩;{cases e;rfl};cases hv};subst Kg;delta cP;go_in;go_wp2;go_ret;exact Ym H.o)|some a=>delta cP;go_in;go_wp2;go_ret;exact Ym H.o):G:=h
theorem Zca(h:G:=by delta cP;go_in;(go_wp2_with first|(go_at_call 107;refine(V6 H).I ? _;rintro en w1 ⟨rfl,dd⟩;have cw:=q8 dd;clear dd)|(go_at_call 110;refine(qP _ (H.new cw)).I ? _;rintro en w2 ⟨rfl,cI,eu⟩;have bT:=q8 cI;have dy:=q8 eu;clear cI eu));go_ret;exact⟨rfl,(cw.M).z bT,dy⟩):G:=h
theorem ZpG(h:G:=by clear h kb ho hm hi;delta cP;go_in;go_wp2;go_quiet (fail);go_wp2;go_ret;refine⟨i,_,_,rfl,by rw[IJ mi];exact HI,? _,? _,? _,λk hk=>.inl hk,λk hk=>.inl hk⟩;{exact((IM.drewN nq).block sb dn id).z KB};{rw[IJ mi];exact H.ext (IM.drewN nq) (λ_ _ f=>f) (λ_ _ f=>f)};exact(IM.drewN nq).M):G:=h
theorem Zcd(h:G:=by delta cP;go_in;go_wp2;refine cq (v:=(M3.of k).val) (by rw[HV.o];simp[results,results179,go_sem]) rfl ⟨rfl,((rr w).alloc _).alloc _⟩):G:=h
theorem TB(h:G:=by simp[results,results71,go_sem,z0,z1,z2,z3]):G:=h
theorem TJ(h:G:=by simp[results,results190,go_sem,z0,z1,z2,z3]):G:=h
theorem TL(h:G:=by simp[results,results108,go_sem,z0,z1,z2,z3]):G:=h
theorem Ms(h:G:=by simp[results,results72,go_sem,z0,z1,z2,z3]):G:=h
theorem TM(h:G:=by rw[he];delta cP;go_in;go_wp2_with fail;go_ret;exact⟨rfl,(rr w).alloc _⟩):G:=h
theorem ZgL(h:G:=by have HC:=q8 hc;clear hc;delta cP;go_in;go_wp2;refine(HC _ (((rr w).alloc _).alloc _)).I ? _;rintro e w1 ⟨rfl,hz⟩;have HZ:=q8 hz;clear hz HC;go_wp2;go_ret;exact⟨rfl,HZ⟩):G:=h
theorem Zch(h:G:=by delta cP;go_in;go_wp2;all_goals go_ret;refine⟨? _,rfl⟩;first|(rfl)|(apply tt;simp_all;done)):G:=h
theorem ZgN(h:G:=by clear h ho;delta cP;go_in;go_wp2_with fail;refine HC.I ? _;rintro e w1 ⟨v',rfl,h1,h2⟩;obtain⟨H1,H2⟩:=bM h1 h2;clear h1 h2;go_wp2_with fail;go_ret;exact⟨v',rfl,H1,H2⟩):G:=h
theorem ZgQ(h:G:=by go_region_law (go_simp;go_wp2_with(go_at_call 253;refine Kj.I ? _;rintro e wf ⟨⟨ok,rfl⟩,ZbW⟩;have wN:=q8 ZbW;clear ZbW));all_goals go_wp2;go_ret;exact wN):G:=h
theorem Mw(h:G:=by simp[results,results143,go_sem]):G:=h
theorem ZgR(h:G:=by delta cP;go_in;go_wp2_with(go_at_call 161;refine(J4 H).I ? _;rintro e w' ⟨rfl,m,rfl⟩);exact ZlY):G:=h
theorem Zcs(h:G:=by simp[results,results133,go_sem,e0,e1,e2,e3,e4,e5]):G:=h
theorem Zhr(h:G:=by simp[results,results192,go_sem,z0,z1,z2,z3]):G:=h
theorem Zcu(h:G:=by simp[results,results214,go_sem,z0,z1,z2,z3]):G:=h
theorem Zcv(h:G:=by simp[results,results114,go_sem,z0,z1,z2,z3]):G:=h
theorem Zhs(h:G:=by have HX:Hid (∀o,eX W (W.alloc o)):=λo=>(rr W).alloc o;delta cP;go_in;go_wp2_with fail;go_ret;exact⟨rfl,HX _⟩):G:=h
theorem Zcw(h:G:=by simp[results,results47,go_sem,z0,z1,z2,z3]):G:=h
theorem ZcG(h:G:=by simp[results,results60,go_sem,a0,a1]):G:=h
theorem ZcO(h:G:=by simp[results,results257,go_sem]):G:=h
theorem ZhP(h:G:=by have H:=q8 h;clear h;delta cP;go_in;go_wp2_with fail;go_ret;exact⟨_,rfl,q9.refl _ _,H⟩):G:=h
theorem Zda(h:G:=by rw[Ni _ _ _ _ iX];simp):G:=h
theorem Ziz(h:G:=by simp[results,results131,go_sem,e0,e1,e2,e3,e4,e5]):G:=h
theorem ZpW(h:G:=by simp[results,results272,go_sem,m0,m1,m2,IT]):G:=h
theorem ZiN(h:G:=by simp[results,results186,go_sem,z0,z1,z2,z3]):G:=h
theorem ZiO(h:G:=by simp[results,results191,go_sem,z0,z1,z2,z3]):G:=h
theorem ZiS(h:G:=by clear h;delta cP;go_in;go_wp2;go_ret;exact⟨rfl,(rr w).alloc _⟩):G:=h
theorem ZiY(h:G:=by simp[results,results73,go_sem,r0,r1,r2,r3]):G:=h
theorem ZiZ(h:G:=by simp[results,results48,go_sem,r0,r1,r2,r3]):G:=h
theorem Zju(h:G:=by simp[results,results212,go_sem,z0,z1]):G:=h
theorem Zds(h:G:=by intro l z W K hK;gi_wp2;exact hK):G:=h
theorem ZjO(h:G:=by simp[results,results258,go_sem]):G:=h
theorem ZjR(h:G:=by simp[results,results136,go_sem]):G:=h
theorem Zqi(h:G:=by simp[results,results71,go_sem]):G:=h
theorem Zkb(h:G:=by simp[results,results49,go_sem]):G:=h
theorem Zkx(h:G:=by simp[results,results274,go_sem,z0,z1,z2,z3]):G:=h
theorem UQ(h:G:=by clear hw;have qV:=q8 jZ;clear jZ;delta cP;go_in;go_wp2_with fail;refine(Kz lh fm sY).I ? _;rintro e w' ⟨rfl,hw⟩;rw[hw];clear hw w';cases hq:nB l fm with|true=>(have dB:=q8 (zD2 lh.o HF.o hq);go_wp2_with fail;go_loopw [2,9](λvv i wr=>∃(j:Nat)(l':List ByteArray),j<=(X2 k ps).length/\i=iI j/\PM w (.slice la l.length lc) l ([.mk k word v ps]++z8 false ((X2 k ps).take j)) vv l' wr)(λ_ i _=>(X2 k ps).length-(intOf i).toNat);(case atStart=>exact Gs);case round=>exact ZmR)|false=>have HQ:=q8 hq;obtain⟨hi,cQ,cz,cE⟩:=HI.o;go_wp2_with(at_builtin;refine gQ _ rfl _ _ 238 rfl 0 9 i0 (.string ByteArray.empty) 1 16 underlying238 hi cQ cz cE rfl bJ _ _ _ rfl (World.ownsRow.alloc lh.o _) (aD w.heap.size 0) 1 1 [.string fm] rfl rfl ? c1 ? c2 ? c3 ? c4 ? c5 ? _);(case c1=>exact Tz);(case c2=>exact uH);(case c3=>unfold maxLen;exact sY);(case c4=>exact sY);(case c5=>omega);intro v' wa gS fC _ cu;have dB:=q8 (qd5 HF.o HQ.o ((rr w).alloc _) fC gS MA);clear gS fC cu hi cQ cz cE;go_wp2_with fail;go_loopw [2,9](λvv i wr=>∃(j:Nat)(l':List ByteArray),j<=(X2 k ps).length/\i=iI j/\PM w (.slice la l.length lc) l ([.mk k word v ps]++z8 false ((X2 k ps).take j)) vv l' wr)(λ_ i _=>(X2 k ps).length-(intOf i).toNat);(case atStart=>exact Gs);case round=>exact ZmR):G:=h
theorem MO(h:G:=by clear hw;obtain⟨dB,qV⟩:=bM (Rb lh) jZ;clear jZ;delta cP;go_in;go_wp2_with fail;go_loopw [2,9](λvv i wr=>∃(j:Nat)(l':List ByteArray),j<=(X2 k ps).length/\i=iI j/\PM w (.slice la l.length lc) l ([]++z8 true ((X2 k ps).take j)) vv l' wr)(λ_ i _=>(X2 k ps).length-(intOf i).toNat);(case atStart=>exact Gs);case round=>clear dB;obtain⟨j,l',hj,rfl,gP⟩:=hrel;have dB:=q8 gP;obtain⟨va,vc,zp,_⟩:=SR.shape gP.2.1;subst zp;have kb:=(gP.1.block _ (j9 eE) (λe=>eD _ e kE)).z eE;have d1:=z7 kb 1;clear gP kb;by_cases ct:j<(X2 k ps).length;{obtain⟨p,hp⟩:∃p,(X2 k ps)[j]?=some p:=⟨_,bZ ct⟩;obtain⟨g,cb,rfl,eZ,hU,nY,ew⟩:=jw j p hp;rw[<-dB.o.1.cell (p:=(aD g j)) eZ (λe=>eD.o _ e hU)]at nY;have HC:=q8 (gD p (cm hp) wr D cb _ l' (ew.ext dB.1 (λq _ hd e=>eD q e hd)) (λq hq=>cC (iy q hq) dB.1.size) dB.2.1 (λq hq hd=>(dB.2.2.2.2 q hq).elim (λe=>eD q e hd) (λe=>Zhc)) ZpD);have HP:=q8 hp;clear hp ew eZ hU;go_wp2_with fail;refine HC.I ? _;rintro e w2 oE;obtain⟨v2,l2,rfl,rH⟩:=Bn dB oE;have zo:=q8 rH;clear oE rH HC;go_wp2_with fail;go_roundw;(case measure=>exact ch);case rel=>exact⟨j+1,l2,bH,bW,ZpI⟩};go_wp2_with fail;go_ret;refine⟨_,l',rfl,? _⟩;have h1:=dB.o;rw[cZ bH,gg.o.1 true]at h1;exact ZhN):G:=h
theorem ZkR(h:G:=by have tE:=q8 nO;clear nO;have xp:s.extract k (k+1)=⟨#[s[k]]⟩:=O8 Zql;have yx:=q8 xp;clear xp;cases eK:W.toList.isEmpty with|true=>(go_wp2_with(at_builtin;refine gQ _ rfl _ _ 285 rfl w.heap.size 328 i0 (.agg #[iI 0,.string ByteArray.empty]) 2 24 Cv hi cQ cz cE rfl bJ _ _ _ rfl (il.o.alloc _) (aD wr.heap.size 0) 1 1 [(iI (k:Int)),(.string (s.extract k (k+1)))] rfl rfl ? c1 ? c2 ? c3 ? c4 ? c5 ? _);(case c1=>exact Gr);(case c2=>exact Gu);(case c3=>exact GN);(case c4=>exact qE);(case c5=>exact MU);intro v2 w2 gS fC _ _;have jF:Hid (eX w w2):=(HE.o.alloc _).grown fC (λg hg _=>Mt);have mO:Hid (w2.ownsRow w.heap.size 328 2 v2 (acc++[(⟨k,s.extract k (k+1)⟩:Tk)]).length (x7 (acc++[(⟨k,s.extract k (k+1)⟩:Tk)]))):=Zqe;clear gS fC;go_wp2;go_roundw;(case measure=>exact Cm);case rel=>refine⟨k+1,_,_,bW,rfl,bH,TQ,qE,jF.o,mO.o,Or.inl ⟨bH,? _⟩⟩;rw[HC.o,dJ,bO tE.o,ND eK,yx.o];have e0:W.toList=[]:=GA;simp[e0])|false=>go_wp2_with(at_builtin;refine gQ _ rfl _ _ 285 rfl w.heap.size 328 i0 (.agg #[iI 0,.string ByteArray.empty]) 2 24 Cv hi cQ cz cE rfl bJ _ _ _ rfl (il.o.alloc _) (aD wr.heap.size 0) 1 1 [(iI ((k:Int)-(W.size:Int))),(.string W)] rfl rfl ? c1 ? c2 ? c3 ? c4 ? c5 ? _);(case c1=>exact Gr);(case c2=>exact Gu);(case c3=>exact GN);(case c4=>exact qE);(case c5=>exact MU);intro v1 w1 gS fC _ _;have iH:Hid (eX w w1):=(HE.o.alloc _).grown fC (λg hg _=>Mt);have mN:Hid (w1.ownsRow w.heap.size 328 2 v1 (acc++[(⟨k-W.size,W⟩:Tk)]).length (x7 (acc++[(⟨k-W.size,W⟩:Tk)]))):=Zeg;clear gS fC;go_wp2_with(at_builtin;refine gQ _ rfl _ _ 285 rfl w.heap.size 328 i0 (.agg #[iI 0,.string ByteArray.empty]) 2 24 Cv hi cQ cz cE rfl bJ _ _ _ rfl (mN.o.alloc _) (aD w1.heap.size 0) 1 1 [(iI (k:Int)),(.string (s.extract k (k+1)))] rfl rfl ? c1 ? c2 ? c3 ? c4 ? c5 ? _);(case c1=>exact Gr);(case c2=>exact Gu);(case c3=>exact GN);(case c4=>exact qE);(case c5=>have:=iH.o.size;exact qE);intro v2 w2 gS fC _ _;have jF:Hid (eX w w2):=(iH.o.alloc _).grown fC (λg hg _=>Zil);have mO:Hid (w2.ownsRow w.heap.size 328 2 v2 ((acc++[(⟨k-W.size,W⟩:Tk)])++[(⟨k,s.extract k (k+1)⟩:Tk)]).length (x7 ((acc++[(⟨k-W.size,W⟩:Tk)])++[(⟨k,s.extract k (k+1)⟩:Tk)]))):=ZpT;clear gS fC;go_wp2;go_roundw;(case measure=>exact Cm);case rel=>refine⟨k+1,_,_,bW,rfl,bH,TQ,qE,jF.o,mO.o,Or.inl ⟨bH,? _⟩⟩;rw[HC.o,dJ,bO tE.o,(Hq bH eK).1,yx.o];simp):G:=h
theorem ZkS(h:G:=by obtain⟨dB,qV⟩:=bM (Rb lh) jZ;clear jZ;delta cP;go_in;go_wp2_with fail;go_loopw [2,9](λvv i wr=>∃(j:Nat)(l':List ByteArray),j<=(X2 k ps).length/\i=iI j/\PM w (.slice la l.length lc) l ([]++z8 false ((X2 k ps).take j)) vv l' wr)(λ_ i _=>(X2 k ps).length-(intOf i).toNat);(case atStart=>exact Gs);case round=>clear dB;obtain⟨j,l',hj,rfl,gP⟩:=hrel;have dB:=q8 gP;obtain⟨va,vc,zp,_⟩:=SR.shape gP.2.1;subst zp;have kb:=(gP.1.block _ (j9 eE) (λe=>eD _ e kE)).z eE;have d1:=z7 kb 1;clear gP kb;by_cases ct:j<(X2 k ps).length;{obtain⟨p,hp⟩:∃p,(X2 k ps)[j]?=some p:=⟨_,bZ ct⟩;obtain⟨g,cb,rfl,eZ,hU,nY,ew⟩:=jw j p hp;rw[<-dB.o.1.cell (p:=(aD g j)) eZ (λe=>eD.o _ e hU)]at nY;have HC:=q8 (gD p (cm hp) wr D cb _ l' (ew.ext dB.1 (λq _ hd e=>eD q e hd)) (λq hq=>cC (iy q hq) dB.1.size) dB.2.1 (λq hq hd=>(dB.2.2.2.2 q hq).elim (λe=>eD q e hd) (λe=>Zhc)) ZpL);have HP:=q8 hp;clear hp ew eZ hU;go_wp2_with fail;refine HC.I ? _;rintro e w2 oE;obtain⟨v2,l2,rfl,rH⟩:=Bn dB oE;have zo:=q8 rH;clear oE rH HC;go_wp2_with fail;go_roundw;(case measure=>exact ch);case rel=>exact⟨j+1,l2,bH,bW,ZpZ⟩};go_wp2_with fail;go_ret;refine⟨_,l',rfl,? _⟩;have h1:=dB.o;rw[cZ bH,gg.o.1 false]at h1;exact ZhN):G:=h
theorem ZkU(h:G:=by obtain⟨js,qd⟩:=bM jr eK;clear qb eu jr cI gU eK;(go_wp2_with first|(go_at_call 106;refine(jp8 (dy.o.new r9.o) qd.o).I ? _;rintro en w4 ⟨rfl,gh⟩;have kn:=(gh.block _ (j9 (bR w2 _)) id).z (bR w2 (.cells #[iI k,.string wd,iI v,.slice sa sn sc] 115));obtain⟨a0,a1,a2,a3⟩:=dR kn 0 1 2 3;have kb:w4.heap[w.heap.size]?=some (.cells #[iI 0,ag,iI 0,ae] 115):=(gh.block _ bQ id).z ((r9.o.block _ bH id).z ((vM.o.block _ bH zq).z ((ds.o.block _ bH id).z jW.o)));obtain⟨z0,z1,z2,z3,y0,y1,y2,y3⟩:=dF kb 0 1 2 3 0 1 2 3;clear kb;have DG:Hid (eX w2 w4):=r9.o.z gh;clear kn gh));refine cq (v:=.tuple #[.agg #[iI k,.string wd,iI v,.slice sa sn sc],iI 0,iI 0]) TB rfl ? _;refine⟨? _,? _⟩;{exact(bT.o.z DG.o).z' (J9 _ _ _ _ _ _) (λi hi e=>fS)};exact ZpH):G:=h
theorem UR(h:G:=by subst heq;obtain⟨a,cap,hv,hc⟩:∃a cap,v=.slice a m cap/\m<=cap/\cap<=maxLen:=by{rcases h.2 with⟨e,e0⟩|⟨g,cap,cur,hv,_,_,h1,h2,_⟩;{exact⟨none,0,zt,bH,cf _⟩};exact Zqc};exact ZpB):G:=h
theorem Zlc(h:G:=by refine cq (v:=.tuple #[.agg #[iI 0,ag,iI 0,ae],iI t.pos,iI 2]) TB rfl ? _;refine⟨? _,? _⟩;{exact((bT.o.z' DG.o (λi hi e=>Cg)).z' (J9 _ _ _ _ _ _) (λi hi e=>fS)).drew};rw[js.o]):G:=h
theorem Zle(h:G:=by go_wp2_with fail;refine cq (v:=.tuple #[.agg #[iV 0,iV 0,iV 0],.bool false]) ZpW rfl ⟨? _,.inl ⟨rfl,bH⟩⟩;exact(((ds.z' (zV _ _ _ _ _) (λi hi e=>fS)).alloc _).alloc _).drew):G:=h
theorem UU(h:G:=by simp[results,results153,go_sem,z0,z1,z2,z3]):G:=h
theorem Zln(h:G:=by unfold maxLen at hm;delta cP;go_in;go_wp2;refine cq (v:=.tuple #[.agg #[iI 0,ag,iI 0,ae],iI 0,iI 1]) Zqi rfl ⟨rfl,? _⟩;exact Ch):G:=h
theorem Zlo(h:G:=by clear fU yz o7 lB hx hc tU;go_wp2;go_region;all_goals go_wp2;go_roundw;(case measure=>exact ch);case rel=>exact⟨j+1,_,bH,bH,mJ,iH,DR,IV⟩):G:=h
theorem Zlp(h:G:=by obtain⟨ka,kc,e2⟩:=Z3 h.ow;have kb:=h.p.ts.bP;rw[e2]at kb;have c6:=z7 kb 6;clear h kb e2;exact Vk):G:=h
theorem Zlr(h:G:=by delta cP;go_in;go_wp2_with(go_at_call 118;refine(qL s _ hs).I ? _;rintro e w' ⟨rfl,hw⟩;rw[hw];clear hw w');go_ret;exact IA H.o HC.o bJ):G:=h
theorem UY(h:G:=by simp[results,results77,go_sem]):G:=h
theorem ZdL(h:G:=by simp only;rw[he];delta cP;go_in;exact Zeh):G:=h
theorem ZlE(h:G:=by have F0:=im;have F2:=jo;have dG:=h.dU;have ew:¬w.heap.size=c.rb:=bH;exact ZpA):G:=h
theorem ZlH(h:G:=by refine cq (v:=.tuple #[.agg #[iI 0,ag,iI 0,ae],.bool false]) Zhr rfl ? _;exact Gt):G:=h
theorem ZlJ(h:G:=by refine cq (v:=.tuple #[.agg #[iI 0,ag,iI 0,ae],.bool false]) TJ rfl ? _;exact Gt):G:=h
theorem ZlK(h:G:=by refine cq (v:=.tuple #[.agg #[iI 0,ag,iI 0,ae],.bool false]) TL rfl ? _;exact Gt):G:=h
theorem ZlL(h:G:=by go_wp2;go_roundg (gk-1);(case measure=>omega);case rel=>exact⟨2,bH,bH,bH,rfl,Hx,Hy⟩):G:=h
theorem Zmm(h:G:=by have vW:=gW 0;have yy:¬sb=w.heap.size:=bH;exact ZpG):G:=h
theorem Vk(h:G:=by delta cP;go_in;go_wp2;go_ret;exact lN):G:=h
theorem _root_.Go.KeepsOthers.z:type_of% @Go.KeepsOthers.trans:=@Go.KeepsOthers.trans
end Go.Proofs.YtegbdaffhpiacaaGreatDoor
