/- Part. -/
import Derived.Test.YtegbdaffhpiacaaGreatDoorDcg35
import Derived.Test.YtegbdaffhpiacaaGreatDoorDcg40
set_option maxRecDepth 100000
set_option maxHeartbeats 16000000
namespace Go.Proofs.YtegbdaffhpiacaaGreatDoor
open Go.Proofs.Tryz Ar
section
open Go.RowKit Go.Maps
variable{nd:Nd}{us:List Tk}{V:ao}{b n g:Nat}{o:Obj}{T' A':List Nd}{cs:ak}
theorem Yh{w:World}{e n g cap:Nat}{xs:List Value}{z0 z1 z2 z3:Value}(h:w.ownsRow 0 e 4 (.slice (sA g) (n+1) cap) (n+1) (xs++[z0,z1,z2,z3]))(hl:xs.length=n*4)(ua ub uc ud:Value):((((w.setCell ⟨g,n*4,none⟩ ua).setCell ⟨g,n*4+1,none⟩ ub).setCell ⟨g,n*4+2,none⟩ uc).setCell ⟨g,n*4+3,none⟩ ud).ownsRow 0 e 4 (.slice (sA g) (n+1) cap) (n+1) (xs++[ua,ub,uc,ud]):=by
 rcases h.2 with⟨e0,_⟩|⟨g',ff,cur,hv,hg,hh,h1,h2,h3,h4⟩
 ·cases e0
 ·cases hv
  refine⟨by simp[hl];omega,.inr ⟨g,cap,_,rfl,hg,X6 (X6 (X6 (X6 hh _ ua) _ ub) _ uc) _ ud,h1,h2,by simpa using h3,?_⟩⟩
  have ec:cur.toList=xs++(z0::z1::z2::z3::cur.toList.drop ((n+1)*4)):=by
   conv=>lhs;rw[<- iP ((n+1)*4) cur.toList,h4]
   simp
  simp only[Array.toList_setIfInBounds]
  rw[ec,yP _ _ (by omega),yP _ _ (by omega),yP _ _ (by omega),yP _ _ (by omega),hl,Nat.sub_self,rU,rU,rU]
  simp only[List.set_cons_zero,List.set_cons_succ]
  rw[List.take_append,cj (by omega),hl,show(n+1)*4-n*4=4 by omega]
  simp
section
variable{w:ao}{sb:Nat}{N:List Nm}{nv:au}{xs:PX}{T A:List Nd}{Y:List ak}{K:List cD}
def Od(w:ao)(sb:Nat)(N:List Nm)(nv:au)(xs:PX)(T A:List Nd)(Y:List ak)(K:List cD)(p c:Int)(e:Ending)(w':ao):Prop :=
 e=.returned (.tuple #[iI p,iI c])/\jf w sb nv xs N T A Y K w'/\rl w' sb xs.vd xs.ml
theorem qt1(h:cL w sb N nv xs T A Y K){w':ao}(a:eX w w'):jf w sb nv xs N T A Y K w'/\rl w' sb xs.vd xs.ml:=⟨⟨a.M,nv,xs,h.ext a (λ_ _ f=>f),λ_ b=>.inl b⟩,z7 (h.ext a (λ_ _ f=>f)).p.ts.aL 7,z7 (h.ext a (λ_ _ f=>f)).p.ts.aL 8⟩
theorem jK8(s:ax)(h:cL w sb N nv xs T A Y K)(c:600<s.size)(b:s.size<=maxLen):cP 25 #[pT sb,ai s] w (Od w sb N nv xs T A Y K 0 1):=by have d:=q8 (UJ (pT sb) s w c b);have c0:=z7 h.p.ts.aL 0;have H:=q8 h;clear h c b;delta cP;go_in;go_wp2_with fail;refine d.mono ?_;rintro _ _ ⟨rfl,a⟩;have bG:=q8 a;clear a;exact ZbM
theorem Zc0(s:ax){e:Int}{p:Nat}(h:cL w sb N nv xs T A Y K)(f:s.size<=600)(b:ju w)(c:Y4 N s.toList=.no e p):cP 25 #[pT sb,ai s] w (Od w sb N nv xs T A Y K p e):=by
 have j:=q8 (Gl s w f h.ps.gC b);have i:(e==0)=false:=by simpa using Vw c
 have c0:=z7 h.p.ts.aL 0;obtain⟨H,g⟩:=aH h c;clear h f b c;delta cP;go_in;go_wp2_with fail;refine j.mono ?_;rintro _ _ ⟨a,d⟩;rw[g.o]at d;subst d;have bG:=q8 a;clear a;exact ZbM
theorem jK9(s:ax)(h:cL w sb N nv xs T A Y K)(i:s.size<=600)(d:ju w)(g:Y4 N s.toList=.ok nd us)(r:20<=Y.length):cP 25 #[pT sb,ai s] w (Od w sb N nv xs T A Y K 0 8):=by have o:=q8 (Gl s w i h.ps.gC d);obtain⟨c,_⟩:=h.iH;obtain⟨_,_,k⟩:=Z3 c;have e:=h.p.ts.aL;rw[k]at e;have c0:=z7 e 0;have f:=j9 e;obtain⟨q,H,n⟩:=aQ e h g;clear h i d g c k e;delta cP;go_in;go_wp2_with fail;refine o.mono ?_;rintro _ l ⟨a,j⟩;rw[n.o]at j;obtain⟨_,_,_,_,_,_,rfl,_⟩:=j;have b:=(a.block sb f id).trans q;have c5:=z7 b 5;have p:=j9 b;have m:¬sb=l.heap.size:=aA;have bG:=q8 a;clear a b c0;exact ZbM
theorem jL0{c:ao}(a:∀k,SF sb nv xs k->k<b)(hb:b<=n)(f:V.heap.size=n+1)(h:jv (V.alloc o).drew sb nv xs T' A' c):c.heap[n+1]?=some o:=by obtain⟨_,_,_,_,_,d,_⟩:=h;rw[<-f];refine(d.block _ (by show V.heap.size<(V.alloc o).heap.size;simp) (λe=>?_)).trans (aN V o);have:=a _ (.inl e);omega
theorem jL1{bO:PX}(a:∀k,SF sb nv xs k->k<b)(hb:b<=n)(f:V.heap.size=n+1)(d:∀k,SF sb nv bO k->SF sb nv xs k\/(V.alloc o).drew.heap.size<=k):∀k,SF sb nv bO k->¬k=n+1:=by
 intro k c _;have e:(V.alloc o).drew.heap.size=V.heap.size+1:=by show(V.alloc o).heap.size=_;simp
 rcases d k c with h|h;have:=a k h;omega;omega
theorem Ic(w:ao)(g a b c d:Nat)(i e f h:au):q9 (λk=>k=g) w ((((w.setCell (aD g a) i).setCell (aD g b) e).setCell (aD g c) f).setCell (aD g d) h):=((((q9.refl (λk=>k=g) w).sc g a _).sc g b _).sc g c _).sc g d _
theorem jX2{w:ao}{e cap:Nat}{xs:ak}{a b c d:au}(h:w.ownsRow 0 e 4 (az g (n+1) cap) (n+1) (xs++[a,b,c,d]))(i:xs.length=n*4):w.cell? ⟨g,n*4,none⟩=some a/\w.cell? ⟨g,n*4+1,none⟩=some b/\w.cell? ⟨g,n*4+2,none⟩=some c/\w.cell? ⟨g,n*4+3,none⟩=some d:=by
 have f:∀q,q<4->w.cell? ⟨g,n*4+q,none⟩=[a,b,c,d][q]?:=by intro q _;rw[h.cellAt _ aA,cB aA,i,show n*4+q-n*4=q by omega]
 exact⟨f 0 aE,f 1 aE,f 2 aE,f 3 aE⟩
def xN(w:ao)(sb:Nat)(A':List Nd)(cs:ak)(nd:Nd)(w':ao):Prop :=
 FT w' (fun q=>w.heap.size<=q/\∀ v,w'.cell? (aD sb 5)=some v->¬v.ownBlock=some q) A' cs nd
theorem Yi{c:ao}{N':List Nm}{Y':List ak}{K':List cD}(h:jf w sb nv xs N' T' A' Y' K' c)(l:xN w sb A' cs nd c)(j:sb<w.heap.size):cP 42 #[pT sb] c λe w'=>e=.returned (.tuple #[])/\jf w sb nv xs N' T' A' Y' K' w'/\xN w sb A' cs nd w'/\rl w' sb (iI 0) (.map none):=by obtain⟨m,g,d,f,k⟩:=h;refine(MV f.p.ts.aL).mono ?_;rintro e _ ⟨rfl,b,a⟩;refine⟨rfl,⟨m.trans' b (λ_ _ e=>.inl (.inl (.inl e))),g,{d with vd:=iI 0,ml:=.map none},f.kI _ _ b a,k⟩,?_,z7 a 7,z7 a 8⟩;have c1:=z7 f.p.ts.aL 5;have c2:=z7 a 5;refine(FT.ext l b (λq _ hd e=>EZ)).mono (λq _ hd=>⟨hd.1,λv i=>?_⟩);refine hd.2 v ?_;rw[c1];rw[c2]at i;exact i
theorem Yj{W w0 w3 b:ao}{bO:PX}{ff:Nat}(h:cL W sb N nv bO T' A' Y K)(A:Y.length<20)(s:eX W w0)(a:w0.grownBy w3 bO.fs.ownBlock)(aV:bO.fs.ownBlock=some g\/W.heap.size<=g)(z:q9 (λk=>k=g\/k=sb) w3 b)(ck:b.ownsRow 0 112 4 (az g (Y.length+1) ff) (Y.length+1) (Y.flatten++cs))(j:cs.length=4)(p:b.heap[sb]?=ad #[nv,bO.ts,bO.tm,bO.at_,bO.am,az g (Y.length+1) ff,bO.ks,bO.vd,bO.ml] 98)(l:FT W (λq=>w.heap.size<=q) A' cs nd)(d:∀k,bO.fs.ownBlock=some k->k<w.heap.size)(u:sb<w.heap.size):xN w sb A' cs nd b/\∃f,cL b sb N nv f T' A' (Y++[cs]) K/\gF W sb nv bO nv f b:=by
 have n:q9 (λk=>k=sb\/bO.fs.ownBlock=some k) W b:=(((s.M).grown a (λk hk _=>Or.inr hk)).trans' z (λk hk e=>by rcases e with e|e;subst e;rcases aV with i|i;exact .inr i;omega;exact .inl e));have y:(Y++[cs]).length=Y.length+1:=aC;obtain⟨t,r⟩:=XW (Y':=Y++[cs]) (fv':=az g (Y.length+1) ff) h p (by rw[y,List.flatten_append];exact yz) (λc x=>by rcases ct.1 x with e|e;exact h.iH.2 c e;rw[rW.1 e];exact j) aA n (λk hk=>R1);refine⟨?_,_,t,r⟩;have c5:=z7 p 5;refine((l.mono (D':=λq=>w.heap.size<=q/\¬q=g) (λq m hd=>⟨hd,λe=>?_⟩)).ext n (λq m hd e=>?_)).mono (λq m hd=>⟨hd.1,λv o e=>?_⟩);subst e;rcases aV with i|i;have:=d q i;omega;omega;rcases e with e|e;omega;have:=d q e;omega;rw[c5]at o;obtain rfl:Value.slice (sA g) (Y.length+1) ff=v:=by simpa using o
 simp[Value.ownBlock]at e;exact hd.2 e.symm
theorem jf6(w:ao)(g sb a b c d:Nat)(j f h i u:au):q9 (λk=>k=g\/k=sb) w (((((w.setCell (aD g a) j).setCell (aD g b) f).setCell (aD g c) h).setCell (aD g d) i).setCell (aD sb 5) u):=((Ic w g a b c d j f h i).mono (λ_ _ e=>Or.inl e)).trans' ((q9.refl (λk=>k=sb) _).sc sb 5 u) (λ_ _ e=>Or.inr e)
theorem jf7(w:ao)(g sb a b c d:Nat)(j f h i u:au):q9 (λk=>k=g\/k=sb) w (((((w.setCell (aD sb 5) u).setCell (aD g a) j).setCell (aD g b) f).setCell (aD g c) h).setCell (aD g d) i):=(((q9.refl (λk=>k=sb) w).sc sb 5 u).mono (λ_ _ e=>Or.inr e)).trans' (Ic _ g a b c d j f h i) (λ_ _ e=>Or.inl e)
section
variable{W w0 w3:ao}{bO:PX}{T' A':List Nd}{g ff:Nat}{z0 z1 z2 z3 Yk:au}{nd:Nd}
theorem jf8(b d c a:au)(o:cL W sb N nv bO T' A' Y K)(hG:gF w sb nv xs nv bO W)(r:Y.length<20)(p:eX W w0)(l:w0.grownBy w3 bO.fs.ownBlock)(h:bO.fs.ownBlock=some g\/W.heap.size<=g)(e:w3.ownsRow 0 112 4 (az g (Y.length+1) ff) (Y.length+1) (Y.flatten++[z0,z1,z2,z3]))(m:¬sb=g)(f:w3.heap[sb]?=ad #[nv,bO.ts,bO.tm,bO.at_,bO.am,Yk,bO.ks,bO.vd,bO.ml] 98)(n:FT W (λq=>w.heap.size<=q) A' [b,d,c,a] nd)(i:∀k,bO.fs.ownBlock=some k->k<w.heap.size)(j:sb<w.heap.size):jf w sb nv xs N T' A' (Y++[[b,d,c,a]]) K (((((w3.setCell ⟨g,Y.length*4,none⟩ b).setCell ⟨g,Y.length*4+1,none⟩ d).setCell ⟨g,Y.length*4+2,none⟩ c).setCell ⟨g,Y.length*4+3,none⟩ a).setCell (aD sb 5) (az g (Y.length+1) ff))/\xN w sb A' [b,d,c,a] nd (((((w3.setCell ⟨g,Y.length*4,none⟩ b).setCell ⟨g,Y.length*4+1,none⟩ d).setCell ⟨g,Y.length*4+2,none⟩ c).setCell ⟨g,Y.length*4+3,none⟩ a).setCell (aD sb 5) (az g (Y.length+1) ff)):=by obtain⟨h4,Yl,h5,h6⟩:=Yj o r p l h (jf6 w3 g sb _ _ _ _ b d c a (az g (Y.length+1) ff)) (j8 (Yh e o.iH.1.1 b d c a) ((q9.refl (λk=>k=sb) _).sc sb 5 _) (λk hk _=>ot)) rfl (X6 (((Ic w3 g _ _ _ _ _ _ _ _).block sb (j9 f) m).trans f) 5 _) n i j;exact Zhv
theorem jf9(b d c a:au)(o:cL W sb N nv bO T' A' Y K)(hG:gF w sb nv xs nv bO W)(r:Y.length<20)(p:eX W w0)(l:w0.grownBy w3 bO.fs.ownBlock)(h:bO.fs.ownBlock=some g\/W.heap.size<=g)(e:w3.ownsRow 0 112 4 (az g (Y.length+1) ff) (Y.length+1) (Y.flatten++[z0,z1,z2,z3]))(m:¬sb=g)(f:w3.heap[sb]?=ad #[nv,bO.ts,bO.tm,bO.at_,bO.am,Yk,bO.ks,bO.vd,bO.ml] 98)(n:FT W (λq=>w.heap.size<=q) A' [b,d,c,a] nd)(i:∀k,bO.fs.ownBlock=some k->k<w.heap.size)(j:sb<w.heap.size):jf w sb nv xs N T' A' (Y++[[b,d,c,a]]) K (((((w3.setCell (aD sb 5) (az g (Y.length+1) ff)).setCell ⟨g,Y.length*4,none⟩ b).setCell ⟨g,Y.length*4+1,none⟩ d).setCell ⟨g,Y.length*4+2,none⟩ c).setCell ⟨g,Y.length*4+3,none⟩ a)/\xN w sb A' [b,d,c,a] nd (((((w3.setCell (aD sb 5) (az g (Y.length+1) ff)).setCell ⟨g,Y.length*4,none⟩ b).setCell ⟨g,Y.length*4+1,none⟩ d).setCell ⟨g,Y.length*4+2,none⟩ c).setCell ⟨g,Y.length*4+3,none⟩ a):=by obtain⟨h4,Yl,h5,h6⟩:=Yj o r p l h (jf7 w3 g sb _ _ _ _ b d c a (az g (Y.length+1) ff)) (Yh (j8 e ((q9.refl (λk=>k=sb) _).sc sb 5 _) (λk hk _=>ot)) o.iH.1.1 b d c a) rfl (((Ic _ g _ _ _ _ _ _ _ _).block sb (by simpa using j9 f) m).trans (X6 f 5 _)) n i j;exact Zhv
end
end
section
variable{w:ao}{sb:Nat}{N:List Nm}{nv:au}{xs:PX}{T A:List Nd}{Y:List ak}{K:List cD}
theorem jL2(s:ax)(h:cL w sb N nv xs T A Y K)(hs:s.size<=600)(xl:ju w)(hr:Y4 N s.toList=.ok nd us)(hf:Y.length<20):cP 25 #[pT sb,ai s] w λe w'=>∃T' A',dH T T' (Z1 true nd)/\dH A A' (Z1 false nd)/\e=.returned (.tuple #[iI 0,iI (mU T'.length A'.length)])/\(mU T'.length A'.length=0->∃cs,jf w sb nv xs N T' A' (Y++[cs]) K w'/\xN w sb A' cs nd w'/\rl w' sb (iI 0) (.map none))/\(¬mU T'.length A'.length=0->jf w sb nv xs N T A Y K w'/\rl w' sb xs.vd xs.ml):=by
 obtain⟨HC,iZ⟩:=aH (Gl s w hs h.ps.gC xl) (Oa h.ok hr);have CA:=q8 (MT hs hr).2;obtain⟨Ym,_⟩:=h.iH;obtain⟨fa,fc,e1⟩:=Z3 Ym;have mV:=h.o9;have N4:=h.pd;have kb:=h.p.ts.aL;have c0:=z7 kb 0;have G:=j9 kb;obtain⟨KB,H,HR,Q⟩:=bH kb h hr h.lt;clear h hs xl hr Ym kb;delta cP;go_in;go_wp2_with fail;refine HC.mono ?_;rintro _ w1 ⟨dC,hm⟩;rw[HR.o]at hm;obtain⟨k',X,v',S,Ie,R,rfl,pZ⟩:=hm;have dK:=(dC.block sb G id).trans KB;rw[e1]at dK;have c5:=z7 dK 5;have uK:=j9 dK;have kK:¬sb=w1.heap.size:=aA;obtain⟨V,hV⟩:∃V,w1.alloc (.cells #[iI k',ai X,iI v',.slice S Ie R] 115)=V:=⟨_,rfl⟩;have xO:eX w V:=by rw[<-hV];exact dC.alloc _
 have eu:=dC.size;have Yn:V.heap.size=w1.heap.size+1:=by rw[<-hV];simp
 have D:=H.ext xO (λ_ _ f=>f);have I:PN V (λk=>w.heap.size<=k/\k<w1.heap.size) [iI k',ai X,iI v',.slice S Ie R] nd:=pZ.within.ext (by rw[<-hV];exact(eR w1).alloc _) (λ_ _ _ f=>f);have mf:Hid (∀W,eX V W->cP 48 #[.pointer (some (aD sb 1)),.agg #[iI k',ai X,iI v',.slice S Ie R]] W (XJ W sb nv xs T A nd)):=λW v=>jf1 iZ CA (I.ext v (λ_ _ _ f=>f)) (λk hk=>by have:=v.size;omega) (λk hk hp=>by have:=Q k (.inl hp);omega) (D.ext v (λ_ _ f=>f)).p mV N4;obtain⟨jS,fo,HV⟩:=aQ D xO hV;have kN:V.heap[w1.heap.size]?=ad #[iI k',ai X,iI v',.slice S Ie R] 115:=by rw[<-hV];exact vZ
 obtain⟨_,_,_,_⟩:=cZ kN 0 1 2 3;clear dC xO D I hV pZ dK kN c0;go_wp2_with fail;rw[HV.o];go_region_law (go_simp;go_wp2_with(go_at_call 48;first|(refine(mf V.drew ((eR V).drew)).mono ?_;rintro e w2 ⟨T2,O,z,hA2,P,d,ri,j,m,l,rfl,L,c⟩;have sR:=q8 L;clear L;have lY:=q8 z;have qe:=q8 hA2;have jW:Hid (eX V V.drew):=(eR V).drew;have zU:=q8 c;clear z hA2 c)|(refine(mf (V.alloc (.cells #[iI 0,ag,iI 0,ae] 112)).drew (((eR V).alloc _).drew)).mono ?_;rintro e w2 ⟨T2,O,z,hA2,P,d,ri,j,m,l,rfl,L,c⟩;have sR:=q8 L;clear L;have lY:=q8 z;have qe:=q8 hA2;have M:w2.heap[w1.heap.size+1]?=ad #[iI 0,ag,iI 0,ae] 112:=jL0 Q aA Yn c;have KZ:=q8 M;have y0:=z7 M 0;have y1:=z7 M 1;have y2:=z7 M 2;have y3:=z7 M 3;have x0:=Q9 M 0;have x1:=Q9 M 1;have x2:=Q9 M 2;have x3:=Q9 M 3;have jW:Hid (eX V (V.alloc (.cells #[iI 0,ag,iI 0,ae] 112)).drew):=((eR V).alloc _).drew;have zU:=q8 c;clear z hA2 c M)));all_goals obtain⟨y,b⟩:∃y,mU T2.length O.length=y:=⟨_,rfl⟩;have c:=zU.o;rw[b]at c;rw[b];have u:=q8 b;have Oe:(if y=0 then T2 else T).length<=12/\(if y=0 then O else A).length<=16:=by{by_cases h0:y=0;rw[aJ h0,aJ h0];rw[h0]at b;unfold mU at b;by_cases h1:12<T2.length;rw[aJ h1]at b;exact absurd b aE;rw[aF h1]at b;by_cases h2:16<O.length;rw[aJ h2]at b;exact absurd b aE;omega;rw[aF h0,aF h0];exact⟨mV,N4⟩};obtain⟨bO,Of,x,_,Yo,U⟩:=XV (jS.ext jW (λ_ _ f=>f)) c Oe.1 Oe.2;have Yp:=q8 Yo;have Yq:=gF.lX (fo.trans jW) U;have dE:=Of.p.ts.aL;rw[x,e1]at dE;have hl2:=j9 dE;have Ch:V.heap.size<=w2.heap.size:=cM jW.size U.1.size;have ZdA:¬sb=w2.heap.size:=aA;have Zkf:¬sb=w1.heap.size+1:=aA;obtain⟨zy,n',N6,_⟩:=bH Of Yq U.2 dE;clear c b Oe Of U Yq dE Yo;(first|(obtain⟨W,v⟩:∃W,(((w2.setCell (aD (w1.heap.size+1) 0) (iI P)).setCell (aD (w1.heap.size+1) 1) (ai d)).setCell (aD (w1.heap.size+1) 2) (iI ri)).setCell (aD (w1.heap.size+1) 3) (.slice j m l)=W:=⟨_,rfl⟩;have o:Hid (q9 (λk=>k=w1.heap.size+1) w2 W):=by{rw[<-v];exact(((((q9.refl (λk=>k=w1.heap.size+1) w2).sc (w1.heap.size+1) 0 _).sc (w1.heap.size+1) 1 _).sc (w1.heap.size+1) 2 _).sc (w1.heap.size+1) 3 _)};have KT:Hid (W.heap[w1.heap.size+1]?=ad #[iI P,ai d,iI ri,.slice j m l] 112):=by{rw[<-v];exact X6 (X6 (X6 (X6 KZ 0 _) 1 _) 2 _) 3 _};have Og:Hid (cL W sb N nv bO (if y=0 then T2 else T) (if y=0 then O else A) Y K/\gF w sb nv xs nv bO W):=by{have dt:∀k,SF sb nv bO k->¬k=w1.heap.size+1:=jL1 Q eu Yn N6;exact⟨zy.ext o dt,n'.1.trans' o (λk hk e=>aA),n'.2⟩};have Yr:Hid (y=0->FT W (λq=>w.heap.size<=q) O [iI P,ai d,iI ri,.slice j m l] nd):=λe=>by{have ew:(V.alloc (.cells #[iI 0,ag,iI 0,ae] 112)).drew.heap.size=V.heap.size+1:=by{show(V.alloc _).heap.size=_;simp};exact((sR (u.trans e)).ext o (λq _ hd e=>aA)).mono (λq _ hd=>aA)};rw[v];clear v)|(obtain⟨W,v⟩:∃W,w2.alloc (.cells #[iI P,ai d,iI ri,.slice j m l] 112)=W:=⟨_,rfl⟩;have o:Hid (eX w2 W):=by{rw[<-v];exact(rr w2).alloc _};have KT:Hid (W.heap[w2.heap.size]?=ad #[iI P,ai d,iI ri,.slice j m l] 112):=by{rw[<-v];exact Sw};have Og:Hid (cL W sb N nv bO (if y=0 then T2 else T) (if y=0 then O else A) Y K/\gF w sb nv xs nv bO W):=⟨zy.ext o (λ_ _ f=>f),n'.ext o⟩;have Yr:Hid (y=0->FT W (λq=>w.heap.size<=q) O [iI P,ai d,iI ri,.slice j m l] nd):=λe=>by{have ew:V.heap.size<=V.drew.heap.size:=aW _;exact((sR (u.trans e)).ext o (λ_ _ _ f=>f)).mono (λq _ hd=>aA)};rw[v];clear v));by_cases E:y=0;{subst E;have a:=Og.o;rw[aJ rfl,aJ rfl]at a;have Ys:=q8 a;have B:=a.1.p.ts.aL;obtain⟨r,_⟩:=a.1.iH;have hzl:=r.1;rw[x,e1]at B r;have w5:=z7 B 5;have hlW:=j9 B;have Zkg:¬sb=W.heap.size:=aA;obtain⟨_,_,_,_⟩:=cZ KT 0 1 2 3;have Hu:=j9 KT;obtain⟨Dq,HFO⟩:=aH B r;have pU:Hid (∀k,(Value.slice fa Y.length fc).ownBlock=some k->¬k=sb):=λk hk e=>(a.1.f1 k (by rw[x,e1];exact hk)).1 (.inl (.inl e));have iu:Hid (∀k,(Value.slice fa Y.length fc).ownBlock=some k->k<w.heap.size):=λk hk=>Q k (.inr (.inr (.inl (by rw[e1];exact hk))));obtain⟨i0,hi,cA,cg,cq⟩:=bJ Nu;have Zkh:(Y.length:Int)<(Y.length:Int)+1:=aA;clear a B r;go_wp2_with fail;go_region_law ((refine step_append_lies _ (by rfl) _ _ _ (by rfl) 0 112 i0 _ 4 56 underlying89 hi cA cg cq rfl aA (.slice fa Y.length fc) Y.length Y.flatten (by rfl) ((HFO.alloc _).drew) (aD W.heap.size 0) 1 1 [iI 0,ag,iI 0,ae] (by rfl) (by rfl) (World.news_of_block (cs:=#[iI 0,ag,iI 0,ae]) (t:=112) (fr:=(0,0)) (aN W _)) rO aA bS aA (aY _) (W.heap.size+1) aC ?_;intro g _ w3 i n aV _;have Z:w3.heap[sb]?=ad #[nv,bO.ts,bO.tm,bO.at_,bO.am,.slice fa Y.length fc,bO.ks,bO.vd,bO.ml] 98:=(n.block sb aM (λe=>pU sb e.symm rfl)).trans ((gL W _ sb hlW).trans Dq);have d5:=z7 Z 5;have d5f:=Q9 Z 5;have J:=(n.block _ aM (λe=>by have:=iu _ e.symm;omega)).trans ((gL W _ _ Hu).trans KT);have q0:=z7 J 0;have q1:=z7 J 1;have q2:=z7 J 2;have q3:=z7 J 3;obtain⟨_,_,_,_⟩:=jX2 i aA;have F:=sK i;have p0:=(F (Y.length*4) aA).2;have p1:=(F (Y.length*4+1) aA).2;have p2:=(F (Y.length*4+2) aA).2;have p3:=(F (Y.length*4+3) aA).2;have Df:¬g=sb:=λe=>aV.elim (λe2=>pU g e2 e) (λe2=>aA);have Yt:¬sb=g:=λe=>Df e.symm;clear F J));all_goals go_wp2_with fail;have uq:(W.alloc (.cells #[iI 0,ag,iI 0,ae] 112)).drew.grownBy w3 bO.fs.ownBlock:=by{rw[x,e1];exact n};have C:bO.fs.ownBlock=some g\/W.heap.size<=g:=by{rw[x,e1];exact aV.imp id (λe=>aA)};have Oh:eX W (W.alloc (.cells #[iI 0,ag,iI 0,ae] 112)).drew:=((rr W).alloc _).drew;have Ig:=Ys.1;have Oi:=Ys.2;have zY:=Yr aC;have iT:∀k,bO.fs.ownBlock=some k->k<w.heap.size:=by{rw[x,e1];exact iu};have Oj:=jf8 (iI P) (ai d) (iI ri) (.slice j m l) Ig Oi hf Oh uq C i Yt Z zY iT G;have Ol:=jf9 (iI P) (ai d) (iI ri) (.slice j m l) Ig Oi hf Oh uq C i Yt Z zY iT G;(first|(with_reducible refine(Yi Oj.1 Oj.2 G).mono ?_)|with_reducible refine(Yi Ol.1 Ol.2 G).mono ?_);rintro e _ ⟨rfl,h9⟩;have H9:=q8 h9;clear h9 uq C Oh Ig Oi zY iT Oj Ol;go_wp2_with fail;go_ret2;exact⟨T2,O,lY,qe,by rw[u.o];rfl,λ_=>⟨_,H9⟩,λe=>absurd u e⟩};have ZdD:(y==0)=false:=by{simpa using E};go_wp2_with fail;go_ret2;have a:=Og.o;rw[aF E,aF E]at a;exact⟨T2,O,lY,qe,by rw[u.o];rfl,λe=>absurd (u.symm.trans e) E,λ_=>⟨⟨a.2.1,nv,bO,a.1,a.2.2⟩,by rw[<-Yp.o.1];exact z7 a.1.p.ts.aL 7,by rw[<-Yp.o.2];exact z7 a.1.p.ts.aL 8⟩⟩
end
end
section
variable{n:Nat}{N:List Nm}{L:List (Nd×Int)}{T A T' Q:List Nd}{t:Bool}{nd:Nd}{s:ax}{us:List Tk}
structure mi(t:Bool)(T:List Nd)(L:List (Nd × Int)):Prop where
 nd:T.Nodup
 mem:∀ x,x∈T↔∃ p∈L,x∈Z1 t p.1
structure Fit(N:List Nm)(L:List (Nd × Int))(T A:List Nd)(F:Int)(k:cD):Prop where
 n:k.n<=N.length
 f:k.f<=L.length
 t:k.t<=T.length
 a:k.a<=A.length
 ns:N.take k.n=N.filter (fun x=>decide (x.fr<F))
 fs:L.take k.f=L.filter (fun x=>decide (x.2<F))
 ts:mi true (T.take k.t) (L.take k.f)
 aw:mi false (A.take k.a) (L.take k.f)
def cD.le(j k:cD):Prop:=j.n<=k.n/\j.t<=k.t/\j.a<=k.a/\j.f<=k.f
structure gH(N:List Nm)(L:List (Nd × Int))(T A:List Nd)(K:List cD):Prop where
 ts:mi true T L
 aw:mi false A L
 ok:∀ p∈L,da p.1
 vp:∀ x∈N,x.fr<=K.length
 xP:∀ p∈L,p.2<=K.length
 fit:∀ (j:Nat) (k:cD),K[j]?=some k->Fit N L T A ((j:Int)+1) k
 up:K.Pairwise cD.le
theorem mi.nil(t:Bool):mi t [] []:=⟨rQ,λ_=>aC⟩
theorem jN0:gH [] [] [] [] []:=⟨mi.nil _,mi.nil _,aC,aC,aC,aC,List.Pairwise.nil⟩
theorem Yu{α:Type}{p:α->Bool}{l:List α}{x:α}(h:p x=false):(l++[x]).filter p=l.filter p:=by simp[h]
theorem Om{α:Type}{l m:List α}(h:n<=l.length):(l++m).take n=l.take n:=by rw[tP h]
theorem Ih{α:Type}{l:List α}{i:Nat}{x:α}(h:l[i]?=some x):i<l.length:=(aX.1 h).1
theorem gH.name{N:List Nm}{L:List (Nd × Int)}{T A:List Nd}{K:List cD}(h:gH N L T A K)(s:ByteArray)(a:Int):gH (N++[⟨s,a,K.length⟩]) L T A K where
 ts:=h.ts
 aw:=h.aw
 ok:=h.ok
 vp:=by
  intro x hx
  rcases ct.1 hx with hx|hx
  ·exact h.vp x hx
  ·simp at hx;subst hx;exact yF _
 xP:=h.xP
 fit:=by
  intro j k hk
  have hf:=h.fit j k hk
  have hj:=Ih hk
  exact⟨by have:=hf.n;simp;omega,hf.f,hf.t,hf.a,by rw[Om hf.n,Yu (by simp;omega)];exact hf.ns,hf.fs,hf.ts,hf.aw⟩
 up:=h.up
theorem gH.decl{K:List cD}(h:gH N L T A K)(s:ax)(a:Int):gH (Y0 N K.length s a) L T A K:=by unfold Y0;by_cases e:J7 N s.toList a=0;rw[aJ e];exact h.name s a;rw[aF e];exact h
theorem Yv{α:Type}{p:α->Bool}{l:List α}(h:∀x∈l,p x=true):l.filter p=l:=List.filter_eq_self.2 h
theorem gH.push{N:List Nm}{L:List (Nd × Int)}{T A:List Nd}{K:List cD}(h:gH N L T A K):gH N L T A (K++[⟨N.length,T.length,A.length,L.length⟩]) where
 ts:=h.ts
 aw:=h.aw
 ok:=h.ok
 vp:=fun x hx=>by have:=h.vp x hx;simp;omega
 xP:=fun x hx=>by have:=h.xP x hx;simp;omega
 fit:=by
  intro j k hk
  by_cases hj:j<K.length
  ·rw[dx hj] at hk
   exact h.fit j k hk
  ·have hl:=Ih hk
   simp at hl
   have e:j=K.length:=by omega
   subst e
   simp at hk
   subst hk
   refine⟨aW _,aW _,aW _,aW _,?_,?_,?_,?_⟩
   ·rw[kD,Yv (fun x hx=>by have:=h.vp x hx;simp;omega)]
   ·rw[kD,Yv (fun x hx=>by have:=h.xP x hx;simp;omega)]
   ·simp only[kD];exact h.ts
   ·simp only[kD];exact h.aw
 up:=by
  rw[Lt]
  refine⟨h.up,List.pairwise_singleton _ _,fun a ha b hb=>?_⟩
  simp at hb
  subst hb
  obtain⟨j,hj,e⟩:=BC ha
  have hf:=h.fit j a (by rw[<- e];exact aU hj)
  exact⟨hf.n,hf.t,hf.a,hf.f⟩
theorem gH.pop{K:List cD}{k:cD}(h:gH N L T A (K++[k])):gH (N.take k.n) (L.take k.f) (T.take k.t) (A.take k.a) K/\N.take k.n=N.filter (λx=>decide (x.fr<(K.length:Int)+1))/\L.take k.f=L.filter (λx=>decide (x.2<(K.length:Int)+1)):=by
 have a:=h.fit K.length k aC;refine⟨⟨a.ts,a.aw,λp l=>h.ok p (fG l),λx b=>?_,λx b=>?_,λj q e=>?_,(Lt.1 h.up).1⟩,a.ns,a.fs⟩;rw[a.ns,rX]at b;have:=b.2;exact pC;rw[a.fs,rX]at b;have:=b.2;exact pC;have o:=Ih e;have c:=h.fit j q (by rw[dx o];exact e);have f:cD.le q k:=(Lt.1 h.up).2.2 q (bg e) k aC;obtain⟨r,s,i,m⟩:=f;have n:(N.take k.n).take q.n=N.take q.n:=by rw[qC,ig r]
 have d:(L.take k.f).take q.f=L.take q.f:=by rw[qC,ig m]
 have g:(T.take k.t).take q.t=T.take q.t:=by rw[qC,ig s]
 have t:(A.take k.a).take q.a=A.take q.a:=by rw[qC,ig i]
 refine⟨?_,?_,?_,?_,?_,?_,?_,?_⟩;rw[dd];have:=a.n;omega;rw[dd];have:=a.f;omega;rw[dd];have:=a.t;omega;rw[dd];have:=a.a;omega;rw[n,c.ns,a.ns,List.filter_filter];refine List.filter_congr (λx _=>?_);by_cases b:x.fr<(j:Int)+1;have:x.fr<(K.length:Int)+1:=aA;simp[b,this];simp[b];rw[d,c.fs,a.fs,List.filter_filter];refine List.filter_congr (λx _=>?_);by_cases b:x.2<(j:Int)+1;have:x.2<(K.length:Int)+1:=aA;simp[b,this];simp[b];rw[g,d];exact c.ts;rw[t,d];exact c.aw
theorem mi.snoc{F:Int}(h:mi t T L)(d:T'.Nodup)(c:dH T T' (Z1 t nd)):mi t T' (L++[(nd,F)]):=by refine⟨d,λ_=>?_⟩;rw[c.mem,h.mem];constructor;rintro(⟨p,a,b⟩|b);exact⟨p,by simp[a],b⟩;exact⟨(nd,F),aC,b⟩;rintro⟨p,a,b⟩;rcases ct.1 a with a|a;exact .inl ⟨p,a,b⟩;simp at a;subst a;exact .inr b
theorem Yw{α:Type}{l m:List α}(h:l<+:m)(a:n<=l.length):m.take n=l.take n:=by obtain⟨_,rfl⟩:=h;exact Om a
theorem gH.take{N:List Nm}{L:List (Nd × Int)}{T A T' A':List Nd}{K:List cD}{nd:Nd}(h:gH N L T A K)(eM:da nd)(hT:dH T T' (Z1 true nd))(hA:dH A A' (Z1 false nd))(hTn:T'.Nodup)(hAn:A'.Nodup):gH N (L++[(nd,(K.length:Int))]) T' A' K where
 ts:=h.ts.snoc hTn hT
 aw:=h.aw.snoc hAn hA
 ok:=by
  intro p hp
  rcases ct.1 hp with hp|hp
  ·exact h.ok p hp
  ·simp at hp;subst hp;exact eM
 vp:=h.vp
 xP:=by
  intro p hp
  rcases ct.1 hp with hp|hp
  ·exact h.xP p hp
  ·simp at hp;subst hp;exact yF _
 fit:=by
  intro j k hk
  have hf:=h.fit j k hk
  have hj:=Ih hk
  have e1:(L++[(nd,(K.length:Int))]).take k.f=L.take k.f:=Om hf.f
  refine⟨hf.n,by have:=hf.f;simp;omega,cM hf.t hT.pre.length_le,cM hf.a hA.pre.length_le,hf.ns,?_,?_,?_⟩
  ·rw[e1,Yu (by simp;omega)];exact hf.fs
  ·rw[e1,Yw hT.pre hf.t];exact hf.ts
  ·rw[e1,Yw hA.pre hf.a];exact hf.aw
 up:=h.up
theorem Yx(h:mi t T L)(i:∀p∈L,da p.1)(g:da nd)(k:T'.Nodup)(n:dH T T' (Z1 t nd)):vm t (L.map Prod.fst) nd=T'.length:=by
 unfold vm;have m:∀x,x∈T'↔x∈z8 t (L.map Prod.fst++[nd]):=by intro x;rw[(h.snoc (F:=0) k n).mem,Z9];constructor;rintro⟨p,b,c⟩;rcases ct.1 b with b|b;exact⟨p.1,by simp;exact .inl ⟨p.2,b⟩,c⟩;simp at b;subst b;exact⟨nd,aC,c⟩;rintro⟨q,a,c⟩;rcases ct.1 a with a|a;obtain⟨p,b,rfl⟩:=dn.1 a;exact⟨p,by simp[b],c⟩;simp at a;subst a;exact⟨(q,0),aC,c⟩
 have d:∀q∈L.map Prod.fst++[nd],da q:=by intro q a;rcases ct.1 a with a|a;obtain⟨p,b,rfl⟩:=dn.1 a;exact i p b;simp at a;subst a;exact g
 refine jw1 k m (λx c y f e=>?_);obtain⟨p,b,c⟩:=Z9.1 c;obtain⟨q,a,f⟩:=Z9.1 f;have j:=uF (d p b);have l:=uF (d q a);cases t with|true=>(exact ME (j.1 x c) (l.1 y f) e)|false=>exact MF (j.2 x c) (l.2 y f) e
theorem jh6{f:Nd}(h:da f):∀x∈Z1 false f,∀p∈nZ x,p∈Z1 true f:=by induction h with|truth _=>(intro x hx;simp[Z1,z8,Y3]at hx)|con _ g e=>(intro x hx p a;simp only[Z1]at hx⊢;rw[if_neg nD]at hx;rw[if_neg nD];obtain⟨q,c,hx⟩:=Z9.1 E0;simpa using Z9.2 ⟨q,c,e q c x hx p a⟩)|two d b hb=>(intro x hx p a;simp[Z1,z8,Y3,x6 b,x6 hb]at hx;subst hx;simp[nZ,J6]at a;simp[Z1,z8,Y3];rcases a with rfl|rfl;exact .inl (C3 b);exact .inr (C3 hb))|le d b hb j i=>intro x hx p a;simp[Z1,z8,Y3,x6 b,x6 hb]at hx;subst hx;simp[nZ,J6]at a;simp[Z1,z8,Y3];rcases a with rfl|rfl;exact .inl (C3 b);exact .inr (C3 hb)
theorem jN1(e:mi true T L)(f:mi false A L)(a:∀p∈L,da p.1):AC T A:=by intro x g;obtain⟨q,b,c⟩:=(f.mem x).1 g;exact⟨(uF (a q b)).2 x c,λp d=>(e.mem p).2 ⟨q,b,jh6 (a q b) x c p d⟩⟩
theorem gH.ac{K:List cD}{k:cD}(h:gH N L T A (K++[k])):AC (T.take k.t) (A.take k.a):=by have a:=h.fit K.length k aC;exact jN1 a.ts a.aw (λp b=>h.ok p (fG b))
theorem qP4{A':List Nd}{K:List cD}(h:gH N L T A K)(k:s.size<=600)(g:Y4 N s.toList=.ok nd us)(a:da nd)(j:L.length<20)(f:dH T T' (Z1 true nd))(i:dH A A' (Z1 false nd))(b:T'.Nodup)(d:A'.Nodup):ej N (L.map Prod.fst) s=(0,mU T'.length A'.length,if mU T'.length A'.length=0 then some nd else none):=by unfold ej;rw[aF aA,g];simp only;rw[aF aM,Yx h.ts h.ok a b f,Yx h.aw h.ok a d i];unfold mU;by_cases c:12<T'.length;simp[c];by_cases e:16<A'.length;simp[c,e];simp[c,e]
theorem qP5(a:600<s.size):ej N Q s=(0,1,none):=by unfold ej;rw[aJ a]
theorem jx5{e:Int}{p:Nat}(b:s.size<=600)(a:Y4 N s.toList=.no e p):ej N Q s=((p:Int),e,none):=by unfold ej;rw[aF aA,a]
theorem qP6(c:s.size<=600)(b:Y4 N s.toList=.ok nd us)(a:20<=Q.length):ej N Q s=(0,8,none):=by unfold ej;rw[aF aA,b];simp only;rw[aJ a]
end
section
open Go.RowKit Go.Maps
variable{D F S:aj}{A':List Nd}{cs:ak}{nd:Nd}{d:Nat}
theorem FT.cut{w:ao}{A:List Nd}(h:FT w D A cs nd)(j:A'<+:A):(∀x∈Z1 false nd,x∈A')->FT w D A' cs nd:=by induction h with| @atom word v ps q=>(intro c;have a:.mk 2 word v ps∈A':=c (.mk 2 word v ps) (by rw[Z1,if_pos nD];simp);have b:=FT.atom (w:=w) (D:=D) (A:=A') a;rw[<-Gx j a]at b;exact b)|node e d k m g o n=>intro c;refine .node e d k m g (λi cs p b f=>n i cs p b f (λx l=>c x ?_));rw[Z1,if_neg (by simpa[Y3]using e)];exact Z9.2 ⟨p,List.mem_of_getElem? f,l⟩
section
variable{w w':ao}{sb:Nat}{N N':List Nm}{L:List (Nd × Int)}{T A:List Nd}{K K':List cD}{nv:au}{xs:PX}{D:aj}{Y:List ak}
theorem FT.ZdF(h:FT w D A' cs nd)(f:cL w sb N nv xs T A Y K)(d:∀q,D q->¬xs.fs.ownBlock=some q):FT w (λq=>D q/\¬SF sb nv xs q) A' cs nd:=by replace h:=h.free f.p;induction h with|atom r=>(exact .atom r)|node k a m o c t s=>refine .node k a m o (λg b=>⟨(c g b).1,?_⟩) (λi cs p l n=>s i cs p l n);obtain⟨_,j⟩:=O4 a b;rintro(e|e|e|e);exact(c g b).2 e;exact K8 f.n9 j aE e;exact d g (c g b).1 e;exact K8 f.mg j aE e
structure PL(w:World)(sb:Nat)(N:List Nm)(L:List (Nd × Int))(T A:List Nd)(K:List cD)(nv:Value)(xs:PX)(D:Nat->Prop)(Y:List (List Value)):Prop where
 ss:cL w sb N nv xs T A Y K
 yl:Y.length=L.length
 ft:∀ (i:Nat) (cs:List Value) (p:Nd × Int),Y[i]?=some cs->L[i]?=some p->FT w D A cs p.1
 st:gH N L T A K
 fw:∀ p∈L,dy p.1
 dk:∀ k,D k->k<w.heap.size/\¬SF sb nv xs k
def jz(w:ao)(sb:Nat)(N:List Nm)(L:List (Nd × Int))(d:Nat)(F:aj):Prop :=
 ∃ T A K nv xs D Y,PL w sb N L T A K nv xs D Y/\K.length=d/\F=fun k=>SF sb nv xs k\/D k
def mX(w:ao)(F:aj)(sb:Nat)(N:List Nm)(L:List (Nd × Int))(d:Nat)(w':ao):Prop :=
 q9 F w w'/\∃ a,jz w' sb N L d a/\∀ k,a k->F k\/w.heap.size<=k
theorem PL.lt(h:PL w sb N L T A K nv xs D Y):∀k,SF sb nv xs k\/D k->k<w.heap.size:=λk a=>a.elim (h.ss.lt k) (λe=>(h.dk k e).1)
theorem jz.lt(h:jz w sb N L d F):∀k,F k->k<w.heap.size:=by obtain⟨_,_,_,_,_,_,_,a,_,rfl⟩:=h;exact a.lt
theorem PL.ext(h:PL w sb N L T A K nv xs D Y)(b:q9 S w w')(c:∀k,SF sb nv xs k\/D k->¬S k):PL w' sb N L T A K nv xs D Y:=⟨h.ss.ext b (λk a=>c k (.inl a)),h.yl,λi cs p e d=>(h.ft i cs p e d).ext b (λk _ hd=>c k (.inr hd)),h.st,h.fw,λk a=>⟨bD (h.dk k a).1 b.size,(h.dk k a).2⟩⟩
theorem jz.ext(h:jz w sb N L d F)(c:q9 S w w')(b:∀k,F k->¬S k):jz w' sb N L d F:=by obtain⟨T,A,K,nv,xs,D,Y,a,hd,rfl⟩:=h;exact⟨T,A,K,nv,xs,D,Y,a.ext c b,hd,rfl⟩
theorem PL.same(h:PL w sb N L T A K nv xs D Y)(g:jf w sb nv xs N' T A Y K' w')(j:gH N' L T A K'):mX w (λk=>SF sb nv xs k\/D k) sb N' L K'.length w':=by obtain⟨c,b,a,f,hF⟩:=g;refine⟨c.mono (λ_ _ e=>.inl e),_,⟨T,A,K',b,a,D,Y,⟨f,h.yl,λi cs p d e2=>(h.ft i cs p d e2).ext c (λk _ hd=>(h.dk k hd).2),j,h.fw,λk hk=>⟨bD (h.dk k hk).1 c.size,λe=>?_⟩⟩,rfl,rfl⟩,λk hk=>?_⟩;exact Zbw;exact Zh8
theorem PL.ZdG{T':List Nd}(h:PL w sb N L T A K nv xs D Y)(x:jf w sb nv xs N T' A' (Y++[cs]) K w')(t:xN w sb A' cs nd w')(v:dH T T' (Z1 true nd))(r:dH A A' (Z1 false nd))(o:da nd)(m:dy nd):mX w (λk=>SF sb nv xs k\/D k) sb N (L++[(nd,(K.length:Int))]) K.length w':=by obtain⟨n,b,a,g,hF⟩:=x;have c5:=z7 g.p.ts.aL 5;have q:=FT.ZdF t g (λ_ u=>u.2 a.fs c5);have j:∀k,D k->¬SF sb b a k:=λk hk e=>Zbw;refine⟨n.mono (λ_ _ e=>.inl e),_,⟨T',A',K,b,a,λk=>D k\/(w.heap.size<=k/\k<w'.heap.size/\¬SF sb b a k),Y++[cs],⟨g,by simp[h.yl],λi c p f e2=>?_,h.st.take o v r g.p.ts.nd g.p.nd,λp d=>?_,λk hk=>?_⟩,rfl,rfl⟩,λk hk=>?_⟩;by_cases s:i<Y.length;rw[dx s]at f;rw[dx (by rw[<-h.yl];exact s)]at e2;exact(((h.ft i c p f e2).ext n (λk _ hd=>(h.dk k hd).2)).pre r.pre).mono (λk _ hd=>.inl hd);have y:=(aX.1 f).1;simp at y;have l:i=Y.length:=aA;subst l;rw[cB (aW _)]at f;rw[cB (by rw[h.yl];exact Bv),h.yl]at e2;simp at f e2;subst f e2;exact q.mono (λk hk hd=>.inr ⟨hd.1.1,hk,hd.2⟩);rcases ct.1 d with d|d;exact h.fw p d;simp at d;subst d;exact m;rcases hk with hk|hk;exact⟨bD (h.dk k hk).1 n.size,j k hk⟩;exact hk.2;rcases hk with hk|hk|hk;exact(hF k hk).imp .inl id;exact .inl (.inr hk);exact .inr hk.1
theorem PL.ZdH{fr:cD}(h:PL w sb N L T A (K++[fr]) nv xs D Y)(f:jf w sb nv xs (N.take fr.n) (T.take fr.t) (A.take fr.a) (Y.take fr.f) K w'):mX w (λk=>SF sb nv xs k\/D k) sb (N.filter (λx=>decide (x.fr<(K.length:Int)+1))) (L.filter (λx=>decide (x.2<(K.length:Int)+1))) K.length w':=by obtain⟨a,c,b,q,hF⟩:=f;obtain⟨m,l,d⟩:=h.st.pop;have j:=h.st.fit K.length fr aC;rw[<-l,<-d];refine⟨a.mono (λ_ _ e=>.inl e),_,⟨T.take fr.t,A.take fr.a,K,c,b,D,Y.take fr.f,⟨q,by simp[h.yl],λi cs p n e2=>?_,m,λp g=>h.fw p (fG g),λk hk=>⟨bD (h.dk k hk).1 a.size,λe=>?_⟩⟩,rfl,rfl⟩,λk hk=>?_⟩;obtain⟨_,o⟩:=lO n;obtain⟨_,r⟩:=lO e2;refine((h.ft i cs p o r).ext a (λk _ hd=>(h.dk k hd).2)).cut (List.take_prefix _ _) (λx a=>?_);exact(j.aw.mem x).2 ⟨p,bg e2,a⟩;exact Zbw;exact Zh8
end
end
end Go.Proofs.YtegbdaffhpiacaaGreatDoor
