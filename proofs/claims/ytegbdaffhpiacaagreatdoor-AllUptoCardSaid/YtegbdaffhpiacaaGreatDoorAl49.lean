/- Part. -/
import Derived.Test.YtegbdaffhpiacaaGreatDoorAl45
import Derived.Test.YtegbdaffhpiacaaGreatDoorAl48
import Derived.Test.YtegbdaffhpiacaaGreatDoorAl36
set_option maxRecDepth 100000
set_option maxHeartbeats 16000000
open Bool renaming false->aT,true->aS
open List renaming length->aA
open Option renaming none->aR,some->aQ
open Or renaming inl->aO,inr->aP
open Go.Value renaming ownBlock->aB
open Go.World renaming cell?->aE,ownsRow->aC
namespace Go.Proofs.YtegbdaffhpiacaaGreatDoor
open Go.Proofs.Tryz Ar
section
open Go.RowKit Go.Maps
variable{w V:ao}{e n g cap b:Nat}{xs cs:ak}{nd:Nd}{us:aZ}{o:Obj}{T' A':aY}
theorem ql7{z0 z1 z2 z3:au}(h:aC w 0 e 4 (az g (n+1) cap) (n+1) (xs++[z0,z1,z2,z3]))(f:aA xs=n*4)(c i d b:au):aC ((((w.setCell ⟨g,n*4,aR⟩ c).setCell ⟨g,n*4+1,aR⟩ i).setCell ⟨g,n*4+2,aR⟩ d).setCell ⟨g,n*4+3,aR⟩ b) 0 e 4 (az g (n+1) cap) (n+1) (xs++[c,i,d,b]):=by
 rcases h.2 with⟨j,_⟩|⟨_,_,a,s,m,q,p,k,r,o⟩;cases j;cases s;refine⟨by simp[f];omega,aP ⟨g,cap,_,rfl,m,X6 (X6 (X6 (X6 q _ c) _ i) _ d) _ b,p,k,by simpa using r,?_⟩⟩;have l:a.toList=xs++(z0::z1::z2::z3::a.toList.drop ((n+1)*4)):=by(conv=>lhs;rw[<-jB ((n+1)*4) a.toList,o]);simp
 simp only[Array.toList_setIfInBounds];rw[l,xK _ _ bH,xK _ _ bH,xK _ _ bH,xK _ _ bH,f,Nat.sub_self,s9,s9,s9];simp only[List.set_cons_zero,List.set_cons_succ];rw[List.take_append,cZ bH,f,show(n+1)*4-n*4=4 by omega];simp
section
variable{w:ao}{sb:Nat}{N:a6}{nv:au}{xs:PX}{T A:aY}{Y:List ak}{K:List dt}
def Rh(w:ao)(sb:Nat)(N:a6)(nv:au)(xs:PX)(T A:aY)(Y:List ak)(K:List dt)(p c:Int)(e:Ending)(w':ao):Prop :=
 e=.returned (.tuple #[iI p,iI c])/\jM w sb nv xs N T A Y K w'/\lL w' sb xs.vd xs.ml
theorem qt1(h:dH w sb N nv xs T A Y K){w':ao}(a:eX w w'):jM w sb nv xs N T A Y K w'/\lL w' sb xs.vd xs.ml:=⟨⟨a.M,nv,xs,h.ext a (λ_ _ f=>f),λ_ b=>aO b⟩,z7 (h.ext a (λ_ _ f=>f)).p.ts.bP 7,z7 (h.ext a (λ_ _ f=>f)).p.ts.bP 8⟩
theorem jK8(s:ax)(h:dH w sb N nv xs T A Y K)(c:600<s.size)(b:s.size<=maxLen):cP 25 #[pT sb,ai s] w (Rh w sb N nv xs T A Y K 0 1):=by have d:=q8 (Xp (pT sb) s w c b);have c0:=z7 h.p.ts.bP 0;have H:=q8 h;clear h c b;delta cP;go_in;go_wp2_with fail;refine d.I ?_;rintro _ _ ⟨rfl,a⟩;have cw:=q8 a;clear a;exact ZcC
theorem Zc0(s:ax){e:Int}{p:Nat}(h:dH w sb N nv xs T A Y K)(f:s.size<=600)(b:gT w)(c:Y4 N s.toList=.no e p):cP 25 #[pT sb,ai s] w (Rh w sb N nv xs T A Y K p e):=by
 have j:=q8 (Ic s w f h.ps.gJ b);have i:(e==0)=aT:=by simpa using Yc c
 have c0:=z7 h.p.ts.bP 0;obtain⟨H,g⟩:=bM h c;clear h f b c;delta cP;go_in;go_wp2_with fail;refine j.I ?_;rintro _ _ ⟨a,d⟩;rw[g.o]at d;subst d;have cw:=q8 a;clear a;exact ZcC
theorem jK9(s:ax)(h:dH w sb N nv xs T A Y K)(i:s.size<=600)(d:gT w)(g:Y4 N s.toList=.ok nd us)(r:20<=aA Y):cP 25 #[pT sb,ai s] w (Rh w sb N nv xs T A Y K 0 8):=by have o:=q8 (Ic s w i h.ps.gJ d);obtain⟨c,_⟩:=h.jh;obtain⟨_,_,k⟩:=Z3 c;have e:=h.p.ts.bP;rw[k]at e;have c0:=z7 e 0;have f:=j9 e;obtain⟨q,H,n⟩:=bV e h g;clear h i d g c k e;delta cP;go_in;go_wp2_with fail;refine o.I ?_;rintro _ l ⟨a,j⟩;rw[n.o]at j;obtain⟨_,_,_,_,_,_,rfl,_⟩:=j;have b:=(a.block sb f id).z q;have c5:=z7 b 5;have p:=j9 b;have m:¬sb=l.heap.size:=bH;have cw:=q8 a;clear a b c0;exact ZcC
theorem jL0{c:ao}(a:∀k,SF sb nv xs k->k<b)(hb:b<=n)(f:V.heap.size=n+1)(h:ld (V.alloc o).drew sb nv xs T' A' c):c.heap[n+1]?=aQ o:=by obtain⟨_,_,_,_,_,d,_⟩:=h;rw[<-f];refine(d.block _ (by show V.heap.size<(V.alloc o).heap.size;simp) (λe=>?_)).z (bR V o);have:=a _ (aO e);omega
theorem jL1{cY:PX}(a:∀k,SF sb nv xs k->k<b)(hb:b<=n)(f:V.heap.size=n+1)(d:∀k,SF sb nv cY k->SF sb nv xs k\/(V.alloc o).drew.heap.size<=k):∀k,SF sb nv cY k->¬k=n+1:=by
 intro k c _;have e:(V.alloc o).drew.heap.size=V.heap.size+1:=by show(V.alloc o).heap.size=_;simp
 rcases d k c with h|h;have:=a k h;omega;omega
theorem KI(w:ao)(g a b c d:Nat)(i e f h:au):q9 (λk=>k=g) w ((((w.setCell (aD g a) i).setCell (aD g b) e).setCell (aD g c) f).setCell (aD g d) h):=((((q9.refl (λk=>k=g) w).sc g a _).sc g b _).sc g c _).sc g d _
theorem jX2{xs:ak}{a b c d:au}(h:aC w 0 e 4 (az g (n+1) cap) (n+1) (xs++[a,b,c,d]))(i:aA xs=n*4):aE w ⟨g,n*4,aR⟩=aQ a/\aE w ⟨g,n*4+1,aR⟩=aQ b/\aE w ⟨g,n*4+2,aR⟩=aQ c/\aE w ⟨g,n*4+3,aR⟩=aQ d:=by
 have f:∀q,q<4->aE w ⟨g,n*4+q,aR⟩=[a,b,c,d][q]?:=by intro q _;rw[h.cellAt _ bH,du bH,i,show n*4+q-n*4=q by omega]
 exact⟨f 0 bJ,f 1 bJ,f 2 bJ,f 3 bJ⟩
def za(w:ao)(sb:Nat)(A':aY)(cs:ak)(nd:Nd)(w':ao):Prop :=
 FT w' (fun q=>w.heap.size<=q/\∀ v,aE w' (aD sb 5)=aQ v->¬aB v=aQ q) A' cs nd
theorem zI4{c:ao}{N':a6}{Y':List ak}{K':List dt}(h:jM w sb nv xs N' T' A' Y' K' c)(l:za w sb A' cs nd c)(j:sb<w.heap.size):cP 42 #[pT sb] c λe w'=>e=.returned (.tuple #[])/\jM w sb nv xs N' T' A' Y' K' w'/\za w sb A' cs nd w'/\lL w' sb (iI 0) (.map aR):=by obtain⟨m,g,d,f,k⟩:=h;refine(ON f.p.ts.bP).I ?_;rintro e _ ⟨rfl,b,a⟩;refine⟨rfl,⟨m.z' b (λ_ _ e=>aO (aO (aO e))),g,{d with vd:=iI 0,ml:=.map aR},f.lU _ _ b a,k⟩,?_,z7 a 7,z7 a 8⟩;have c1:=z7 f.p.ts.bP 5;have c2:=z7 a 5;refine(FT.ext l b (λq _ hd e=>GC)).I (λq _ hd=>⟨hd.1,λv i=>?_⟩);refine hd.2 v ?_;rw[c1];rw[c2]at i;exact i
theorem ql8{W w0 w3 b:ao}{cY:PX}{kG:Nat}(h:dH W sb N nv cY T' A' Y K)(A:aA Y<20)(s:eX W w0)(a:w0.grownBy w3 (aB cY.fs))(cu:aB cY.fs=aQ g\/W.heap.size<=g)(z:q9 (λk=>k=g\/k=sb) w3 b)(c9:aC b 0 112 4 (az g (aA Y+1) kG) (aA Y+1) (Y.flatten++cs))(j:aA cs=4)(p:b.heap[sb]?=ad #[nv,cY.ts,cY.tm,cY.at_,cY.am,az g (aA Y+1) kG,cY.ks,cY.vd,cY.ml] 98)(l:FT W (λq=>w.heap.size<=q) A' cs nd)(d:∀k,aB cY.fs=aQ k->k<w.heap.size)(u:sb<w.heap.size):za w sb A' cs nd b/\∃f,dH b sb N nv f T' A' (Y++[cs]) K/\iK W sb nv cY nv f b:=by
 have n:q9 (λk=>k=sb\/aB cY.fs=aQ k) W b:=(((s.M).grown a (λk hk _=>Or.inr hk)).z' z (λk hk e=>by rcases e with e|e;subst e;rcases cu with i|i;exact aP i;omega;exact aO e));have y:aA (Y++[cs])=aA Y+1:=bK;obtain⟨t,r⟩:=qX6 (Y':=Y++[cs]) (fv':=az g (aA Y+1) kG) h p (by rw[y,List.flatten_append];exact xy) (λc x=>by rcases da.1 x with e|e;exact h.jh.2 c e;rw[tg.1 e];exact j) bH n (λk hk=>Ub);refine⟨?_,_,t,r⟩;have c5:=z7 p 5;refine((l.I (D':=λq=>w.heap.size<=q/\¬q=g) (λq m hd=>⟨hd,λe=>?_⟩)).ext n (λq m hd e=>?_)).I (λq m hd=>⟨hd.1,λv o e=>?_⟩);subst e;rcases cu with i|i;have:=d q i;omega;omega;rcases e with e|e;omega;have:=d q e;omega;rw[c5]at o;obtain rfl:Value.slice (sA g) (aA Y+1) kG=v:=by simpa using o
 simp[Value.ownBlock]at e;exact hd.2 e.symm
theorem jf6(w:ao)(g sb a b c d:Nat)(j f h i u:au):q9 (λk=>k=g\/k=sb) w (((((w.setCell (aD g a) j).setCell (aD g b) f).setCell (aD g c) h).setCell (aD g d) i).setCell (aD sb 5) u):=((KI w g a b c d j f h i).I (λ_ _ e=>Or.inl e)).z' ((q9.refl (λk=>k=sb) _).sc sb 5 u) (λ_ _ e=>Or.inr e)
theorem jf7(w:ao)(g sb a b c d:Nat)(j f h i u:au):q9 (λk=>k=g\/k=sb) w (((((w.setCell (aD sb 5) u).setCell (aD g a) j).setCell (aD g b) f).setCell (aD g c) h).setCell (aD g d) i):=(((q9.refl (λk=>k=sb) w).sc sb 5 u).I (λ_ _ e=>Or.inr e)).z' (KI _ g a b c d j f h i) (λ_ _ e=>Or.inl e)
section
variable{W w0 w3:ao}{cY:PX}{T' A':aY}{g kG:Nat}{z0 z1 z2 z3 fs0:au}{nd:Nd}
theorem jf8(b d c a:au)(o:dH W sb N nv cY T' A' Y K)(hG:iK w sb nv xs nv cY W)(r:aA Y<20)(p:eX W w0)(l:w0.grownBy w3 (aB cY.fs))(h:aB cY.fs=aQ g\/W.heap.size<=g)(e:aC w3 0 112 4 (az g (aA Y+1) kG) (aA Y+1) (Y.flatten++[z0,z1,z2,z3]))(m:¬sb=g)(f:w3.heap[sb]?=ad #[nv,cY.ts,cY.tm,cY.at_,cY.am,fs0,cY.ks,cY.vd,cY.ml] 98)(n:FT W (λq=>w.heap.size<=q) A' [b,d,c,a] nd)(i:∀k,aB cY.fs=aQ k->k<w.heap.size)(j:sb<w.heap.size):jM w sb nv xs N T' A' (Y++[[b,d,c,a]]) K (((((w3.setCell ⟨g,aA Y*4,aR⟩ b).setCell ⟨g,aA Y*4+1,aR⟩ d).setCell ⟨g,aA Y*4+2,aR⟩ c).setCell ⟨g,aA Y*4+3,aR⟩ a).setCell (aD sb 5) (az g (aA Y+1) kG))/\za w sb A' [b,d,c,a] nd (((((w3.setCell ⟨g,aA Y*4,aR⟩ b).setCell ⟨g,aA Y*4+1,aR⟩ d).setCell ⟨g,aA Y*4+2,aR⟩ c).setCell ⟨g,aA Y*4+3,aR⟩ a).setCell (aD sb 5) (az g (aA Y+1) kG)):=by obtain⟨h4,xs4,h5,h6⟩:=ql8 o r p l h (jf6 w3 g sb _ _ _ _ b d c a (az g (aA Y+1) kG)) (j8 (ql7 e o.jh.1.1 b d c a) ((q9.refl (λk=>k=sb) _).sc sb 5 _) (λk hk _=>pH)) rfl (X6 (((KI w3 g _ _ _ _ _ _ _ _).block sb (j9 f) m).z f) 5 _) n i j;exact Zjh
theorem jf9(b d c a:au)(o:dH W sb N nv cY T' A' Y K)(hG:iK w sb nv xs nv cY W)(r:aA Y<20)(p:eX W w0)(l:w0.grownBy w3 (aB cY.fs))(h:aB cY.fs=aQ g\/W.heap.size<=g)(e:aC w3 0 112 4 (az g (aA Y+1) kG) (aA Y+1) (Y.flatten++[z0,z1,z2,z3]))(m:¬sb=g)(f:w3.heap[sb]?=ad #[nv,cY.ts,cY.tm,cY.at_,cY.am,fs0,cY.ks,cY.vd,cY.ml] 98)(n:FT W (λq=>w.heap.size<=q) A' [b,d,c,a] nd)(i:∀k,aB cY.fs=aQ k->k<w.heap.size)(j:sb<w.heap.size):jM w sb nv xs N T' A' (Y++[[b,d,c,a]]) K (((((w3.setCell (aD sb 5) (az g (aA Y+1) kG)).setCell ⟨g,aA Y*4,aR⟩ b).setCell ⟨g,aA Y*4+1,aR⟩ d).setCell ⟨g,aA Y*4+2,aR⟩ c).setCell ⟨g,aA Y*4+3,aR⟩ a)/\za w sb A' [b,d,c,a] nd (((((w3.setCell (aD sb 5) (az g (aA Y+1) kG)).setCell ⟨g,aA Y*4,aR⟩ b).setCell ⟨g,aA Y*4+1,aR⟩ d).setCell ⟨g,aA Y*4+2,aR⟩ c).setCell ⟨g,aA Y*4+3,aR⟩ a):=by obtain⟨h4,xs4,h5,h6⟩:=ql8 o r p l h (jf7 w3 g sb _ _ _ _ b d c a (az g (aA Y+1) kG)) (ql7 (j8 e ((q9.refl (λk=>k=sb) _).sc sb 5 _) (λk hk _=>pH)) o.jh.1.1 b d c a) rfl (((KI _ g _ _ _ _ _ _ _ _).block sb (by simpa using j9 f) m).z (X6 f 5 _)) n i j;exact Zjh
end
end
section
variable{w:ao}{sb:Nat}{N:a6}{nv:au}{xs:PX}{T A:aY}{Y:List ak}{K:List dt}
theorem jL2(s:ax)(h:dH w sb N nv xs T A Y K)(hs:s.size<=600)(KK:gT w)(hr:Y4 N s.toList=.ok nd us)(hf:aA Y<20):cP 25 #[pT sb,ai s] w λe w'=>∃T' A',eQ T T' (Z1 aS nd)/\eQ A A' (Z1 aT nd)/\e=.returned (.tuple #[iI 0,iI (ov (aA T') (aA A'))])/\(ov (aA T') (aA A')=0->∃cs,jM w sb nv xs N T' A' (Y++[cs]) K w'/\za w sb A' cs nd w'/\lL w' sb (iI 0) (.map aR))/\(¬ov (aA T') (aA A')=0->jM w sb nv xs N T A Y K w'/\lL w' sb xs.vd xs.ml):=by
 obtain⟨HC,jt⟩:=bM (Ic s w hs h.ps.gJ KK) (Rf h.ok hr);have DT:=q8 (OL hs hr).2;obtain⟨hfo,_⟩:=h.jh;obtain⟨fa,fc,e1⟩:=Z3 hfo;have ox:=h.lK;have QY:=h.pA;have kb:=h.p.ts.bP;have c0:=z7 kb 0;have G:=j9 kb;obtain⟨KB,H,HR,Q⟩:=cK kb h hr h.lt;clear h hs KK hr hfo kb;delta cP;go_in;go_wp2_with fail;refine HC.I ?_;rintro _ w1 ⟨dd,hm⟩;rw[HR.o]at hm;obtain⟨k',X,v',S,KO,R,rfl,od⟩:=hm;have gu:=(dd.block sb G id).z KB;rw[e1]at gu;have c5:=z7 gu 5;have vT:=j9 gu;have nP:¬sb=w1.heap.size:=bH;obtain⟨V,hV⟩:∃V,w1.alloc (.cells #[iI k',ai X,iI v',.slice S KO R] 115)=V:=⟨_,rfl⟩;have qu:eX w V:=by rw[<-hV];exact dd.alloc _
 have fu:=dd.size;have hVs:V.heap.size=w1.heap.size+1:=by rw[<-hV];simp
 have D:=H.ext qu (λ_ _ f=>f);have I:PN V (λk=>w.heap.size<=k/\k<w1.heap.size) [iI k',ai X,iI v',.slice S KO R] nd:=od.within.ext (by rw[<-hV];exact(eR w1).alloc _) (λ_ _ _ f=>f);have lG:Hid (∀W,eX V W->cP 48 #[.pointer (aQ (aD sb 1)),.agg #[iI k',ai X,iI v',.slice S KO R]] W (ju4 W sb nv xs T A nd)):=λW v=>jf1 jt DT (I.ext v (λ_ _ _ f=>f)) (λk hk=>by have:=v.size;omega) (λk hk hp=>by have:=Q k (aO hp);omega) (D.ext v (λ_ _ f=>f)).p ox QY;obtain⟨p6,fO,HV⟩:=bV D qu hV;have kN:V.heap[w1.heap.size]?=ad #[iI k',ai X,iI v',.slice S KO R] 115:=by rw[<-hV];exact xC
 obtain⟨_,_,_,_⟩:=dR kN 0 1 2 3;clear dd qu D I hV od gu kN c0;go_wp2_with fail;rw[HV.o];go_region_law (go_simp;go_wp2_with(go_at_call 48;first|(refine(lG V.drew ((eR V).drew)).I ?_;rintro e w2 ⟨T2,O,z,hA2,P,d,ri,j,m,l,rfl,L,c⟩;have ry:=q8 L;clear L;have pk:=q8 z;have ra:=q8 hA2;have oQ:Hid (eX V V.drew):=(eR V).drew;have A3:=q8 c;clear z hA2 c)|(refine(lG (V.alloc (.cells #[iI 0,ag,iI 0,ae] 112)).drew (((eR V).alloc _).drew)).I ?_;rintro e w2 ⟨T2,O,z,hA2,P,d,ri,j,m,l,rfl,L,c⟩;have ry:=q8 L;clear L;have pk:=q8 z;have ra:=q8 hA2;have M:w2.heap[w1.heap.size+1]?=ad #[iI 0,ag,iI 0,ae] 112:=jL0 Q bH hVs c;have KZ:=q8 M;have y0:=z7 M 0;have y1:=z7 M 1;have y2:=z7 M 2;have y3:=z7 M 3;have x0:=Q9 M 0;have x1:=Q9 M 1;have x2:=Q9 M 2;have x3:=Q9 M 3;have oQ:Hid (eX V (V.alloc (.cells #[iI 0,ag,iI 0,ae] 112)).drew):=((eR V).alloc _).drew;have A3:=q8 c;clear z hA2 c M)));all_goals obtain⟨y,b⟩:∃y,ov (aA T2) (aA O)=y:=⟨_,rfl⟩;have c:=A3.o;rw[b]at c;rw[b];have u:=q8 b;have Ri:aA (if y=0 then T2 else T)<=12/\aA (if y=0 then O else A)<=16:=by{by_cases h0:y=0;rw[bO h0,bO h0];rw[h0]at b;unfold ov at b;by_cases h1:12<aA T2;rw[bO h1]at b;exact absurd b bJ;rw[bL h1]at b;by_cases h2:16<aA O;rw[bO h2]at b;exact absurd b bJ;omega;rw[bL h0,bL h0];exact⟨ox,QY⟩};obtain⟨cY,Rj,x,_,he7,U⟩:=qC6 (p6.ext oQ (λ_ _ f=>f)) c Ri.1 Ri.2;have HVM:=q8 he7;have hGB:=iK.ng (fO.z oQ) U;have jH:=Rj.p.ts.bP;rw[x,e1]at jH;have hl2:=j9 jH;have DE:V.heap.size<=w2.heap.size:=dm oQ.size U.1.size;have ZeK:¬sb=w2.heap.size:=bH;have ZoK:¬sb=w1.heap.size+1:=bH;obtain⟨AH,pB,Q',_⟩:=cK Rj hGB U.2 jH;clear c b Ri Rj U hGB jH he7;(first|(obtain⟨W,v⟩:∃W,(((w2.setCell (aD (w1.heap.size+1) 0) (iI P)).setCell (aD (w1.heap.size+1) 1) (ai d)).setCell (aD (w1.heap.size+1) 2) (iI ri)).setCell (aD (w1.heap.size+1) 3) (.slice j m l)=W:=⟨_,rfl⟩;have o:Hid (q9 (λk=>k=w1.heap.size+1) w2 W):=by{rw[<-v];exact(((((q9.refl (λk=>k=w1.heap.size+1) w2).sc (w1.heap.size+1) 0 _).sc (w1.heap.size+1) 1 _).sc (w1.heap.size+1) 2 _).sc (w1.heap.size+1) 3 _)};have KT:Hid (W.heap[w1.heap.size+1]?=ad #[iI P,ai d,iI ri,.slice j m l] 112):=by{rw[<-v];exact X6 (X6 (X6 (X6 KZ 0 _) 1 _) 2 _) 3 _};have Rk:Hid (dH W sb N nv cY (if y=0 then T2 else T) (if y=0 then O else A) Y K/\iK w sb nv xs nv cY W):=by{have gN:∀k,SF sb nv cY k->¬k=w1.heap.size+1:=jL1 Q fu hVs Q';exact⟨AH.ext o gN,pB.1.z' o (λk hk e=>bH),pB.2⟩};have HFW:Hid (y=0->FT W (λq=>w.heap.size<=q) O [iI P,ai d,iI ri,.slice j m l] nd):=λe=>by{have jI:(V.alloc (.cells #[iI 0,ag,iI 0,ae] 112)).drew.heap.size=V.heap.size+1:=by{show(V.alloc _).heap.size=_;simp};exact((ry (u.z e)).ext o (λq _ hd e=>bH)).I (λq _ hd=>bH)};rw[v];clear v)|(obtain⟨W,v⟩:∃W,w2.alloc (.cells #[iI P,ai d,iI ri,.slice j m l] 112)=W:=⟨_,rfl⟩;have o:Hid (eX w2 W):=by{rw[<-v];exact(rr w2).alloc _};have KT:Hid (W.heap[w2.heap.size]?=ad #[iI P,ai d,iI ri,.slice j m l] 112):=by{rw[<-v];exact UH};have Rk:Hid (dH W sb N nv cY (if y=0 then T2 else T) (if y=0 then O else A) Y K/\iK w sb nv xs nv cY W):=⟨AH.ext o (λ_ _ f=>f),pB.ext o⟩;have HFW:Hid (y=0->FT W (λq=>w.heap.size<=q) O [iI P,ai d,iI ri,.slice j m l] nd):=λe=>by{have jI:V.heap.size<=V.drew.heap.size:=cj _;exact((ry (u.z e)).ext o (λ_ _ _ f=>f)).I (λq _ hd=>bH)};rw[v];clear v));by_cases E:y=0;{subst E;have a:=Rk.o;rw[bO rfl,bO rfl]at a;have Zar:=q8 a;have B:=a.1.p.ts.bP;obtain⟨r,_⟩:=a.1.jh;have hzl:=r.1;rw[x,e1]at B r;have w5:=z7 B 5;have hlW:=j9 B;have ZoL:¬sb=W.heap.size:=bH;obtain⟨_,_,_,_⟩:=dR KT 0 1 2 3;have JR:=j9 KT;obtain⟨Fa,HFO⟩:=bM B r;have yb:Hid (∀k,aB (Value.slice fa (aA Y) fc)=aQ k->¬k=sb):=λk hk e=>(a.1.f1 k (by rw[x,e1];exact hk)).1 (aO (aO e));have nU:Hid (∀k,aB (Value.slice fa (aA Y) fc)=aQ k->k<w.heap.size):=λk hk=>Q k (aP (aP (aO (by rw[e1];exact hk))));obtain⟨i0,hi,cQ,cz,cE⟩:=cR IG;have ZoM:(aA Y:Int)<(aA Y:Int)+1:=bH;clear a B r;go_wp2_with fail;go_region_law ((refine step_append_lies _ (by rfl) _ _ _ (by rfl) 0 112 i0 _ 4 56 underlying89 hi cQ cz cE rfl bH (.slice fa (aA Y) fc) (aA Y) Y.flatten (by rfl) ((HFO.alloc _).drew) (aD W.heap.size 0) 1 1 [iI 0,ag,iI 0,ae] (by rfl) (by rfl) (World.news_of_block (cs:=#[iI 0,ag,iI 0,ae]) (t:=112) (fr:=(0,0)) (bR W _)) rI bH cN bH (cf _) (W.heap.size+1) bK ?_;intro g _ w3 i n cu _;have Z:w3.heap[sb]?=ad #[nv,cY.ts,cY.tm,cY.at_,cY.am,.slice fa (aA Y) fc,cY.ks,cY.vd,cY.ml] 98:=(n.block sb bQ (λe=>yb sb e.symm rfl)).z ((iO W _ sb hlW).z Fa);have d5:=z7 Z 5;have d5f:=Q9 Z 5;have J:=(n.block _ bQ (λe=>by have:=nU _ e.symm;omega)).z ((iO W _ _ JR).z KT);have q0:=z7 J 0;have q1:=z7 J 1;have q2:=z7 J 2;have q3:=z7 J 3;obtain⟨_,_,_,_⟩:=jX2 i bH;have F:=qg i;have p0:=(F (aA Y*4) bH).2;have p1:=(F (aA Y*4+1) bH).2;have p2:=(F (aA Y*4+2) bH).2;have p3:=(F (aA Y*4+3) bH).2;have EW:¬g=sb:=λe=>cu.elim (λe2=>yb g e2 e) (λe2=>bH);have Zas:¬sb=g:=λe=>EW e.symm;clear F J));all_goals go_wp2_with fail;have vz:(W.alloc (.cells #[iI 0,ag,iI 0,ae] 112)).drew.grownBy w3 (aB cY.fs):=by{rw[x,e1];exact n};have C:aB cY.fs=aQ g\/W.heap.size<=g:=by{rw[x,e1];exact cu.imp id (λe=>bH)};have Rl:eX W (W.alloc (.cells #[iI 0,ag,iI 0,ae] 112)).drew:=((rr W).alloc _).drew;have JZ:=Zar.1;have ur:=Zar.2;have Bh:=HFW bK;have lV:∀k,aB cY.fs=aQ k->k<w.heap.size:=by{rw[x,e1];exact nU};have Rm:=jf8 (iI P) (ai d) (iI ri) (.slice j m l) JZ ur hf Rl vz C i Zas Z Bh lV G;have Rn:=jf9 (iI P) (ai d) (iI ri) (.slice j m l) JZ ur hf Rl vz C i Zas Z Bh lV G;(first|(with_reducible refine(zI4 Rm.1 Rm.2 G).I ?_)|with_reducible refine(zI4 Rn.1 Rn.2 G).I ?_);rintro e _ ⟨rfl,h9⟩;have H9:=q8 h9;clear h9 vz C Rl JZ ur Bh lV Rm Rn;go_wp2_with fail;go_ret2;exact⟨T2,O,pk,ra,by rw[u.o];rfl,λ_=>⟨_,H9⟩,λe=>absurd u e⟩};have Zfr:(y==0)=aT:=by{simpa using E};go_wp2_with fail;go_ret2;have a:=Rk.o;rw[bL E,bL E]at a;exact⟨T2,O,pk,ra,by rw[u.o];rfl,λe=>absurd (u.symm.z e) E,λ_=>⟨⟨a.2.1,nv,cY,a.1,a.2.2⟩,by rw[<-HVM.o.1];exact z7 a.1.p.ts.bP 7,by rw[<-HVM.o.2];exact z7 a.1.p.ts.bP 8⟩⟩
end
end
section
variable{n:Nat}{N:a6}{L:List (Nd×Int)}{T A T' Q:aY}{t:Bool}{nd:Nd}{s:ax}{us:aZ}
structure nD(t:Bool)(T:aY)(L:br):Prop where
 nd:T.Nodup
 mem:∀ x,x∈T↔∃ p∈L,x∈Z1 t p.1
structure Fit(N:a6)(L:br)(T A:aY)(F:Int)(k:dt):Prop where
 n:k.n<=aA N
 f:k.f<=aA L
 t:k.t<=aA T
 a:k.a<=aA A
 ns:N.take k.n=N.filter (fun x=>decide (x.fr<F))
 fs:L.take k.f=L.filter (fun x=>decide (x.2<F))
 ts:nD aS (T.take k.t) (L.take k.f)
 aw:nD aT (A.take k.a) (L.take k.f)
def dt.le(j k:dt):Prop:=j.n<=k.n/\j.t<=k.t/\j.a<=k.a/\j.f<=k.f
structure iM(N:a6)(L:br)(T A:aY)(K:List dt):Prop where
 ts:nD aS T L
 aw:nD aT A L
 ok:∀ p∈L,dZ p.1
 wU:∀ x∈N,x.fr<=aA K
 zb:∀ p∈L,p.2<=aA K
 fit:∀ (j:Nat) (k:dt),K[j]?=aQ k->Fit N L T A ((j:Int)+1) k
 up:K.Pairwise dt.le
theorem nD.nil(t:Bool):nD t [] []:=⟨sZ,λ_=>bK⟩
theorem jN0:iM [] [] [] [] []:=⟨nD.nil _,nD.nil _,bK,bK,bK,bK,List.Pairwise.nil⟩
theorem zD0{α:Type}{p:α->Bool}{l:List α}{x:α}(h:p x=aT):(l++[x]).filter p=l.filter p:=by simp[h]
theorem Ro{α:Type}{l m:List α}(h:n<=aA l):(l++m).take n=l.take n:=by rw[s7 h]
theorem KQ{α:Type}{l:List α}{i:Nat}{x:α}(h:l[i]?=aQ x):i<aA l:=(ck.1 h).1
theorem iM.name{N:a6}{L:br}{T A:aY}{K:List dt}(h:iM N L T A K)(s:ByteArray)(a:Int):iM (N++[⟨s,a,(aA K)⟩]) L T A K where
 ts:=h.ts
 aw:=h.aw
 ok:=h.ok
 wU:=by
  intro x hx
  rcases da.1 hx with hx|hx
  ·exact h.wU x hx
  ·simp at hx;subst hx;exact zD _
 zb:=h.zb
 fit:=by
  intro j k hk
  have hf:=h.fit j k hk
  have hj:=KQ hk
  exact⟨by have:=hf.n;simp;omega,hf.f,hf.t,hf.a,by rw[Ro hf.n,zD0 (by simp;omega)];exact hf.ns,hf.fs,hf.ts,hf.aw⟩
 up:=h.up
theorem iM.decl{K:List dt}(h:iM N L T A K)(s:ax)(a:Int):iM (fT N (aA K) s a) L T A K:=by unfold fT;by_cases e:J7 N s.toList a=0;rw[bO e];exact h.name s a;rw[bL e];exact h
theorem qd2{α:Type}{p:α->Bool}{l:List α}(h:∀x∈l,p x=aS):l.filter p=l:=List.filter_eq_self.2 h
theorem iM.push{N:a6}{L:br}{T A:aY}{K:List dt}(h:iM N L T A K):iM N L T A (K++[⟨(aA N),(aA T),(aA A),(aA L)⟩]) where
 ts:=h.ts
 aw:=h.aw
 ok:=h.ok
 wU:=fun x hx=>by have:=h.wU x hx;simp;omega
 zb:=fun x hx=>by have:=h.zb x hx;simp;omega
 fit:=by
  intro j k hk
  by_cases hj:j<aA K
  ·rw[ei hj] at hk
   exact h.fit j k hk
  ·have hl:=KQ hk
   simp at hl
   have e:j=aA K:=by omega
   subst e
   simp at hk
   subst hk
   refine⟨cj _,cj _,cj _,cj _,?_,?_,?_,?_⟩
   ·rw[lS,qd2 (fun x hx=>by have:=h.wU x hx;simp;omega)]
   ·rw[lS,qd2 (fun x hx=>by have:=h.zb x hx;simp;omega)]
   ·simp only[lS];exact h.ts
   ·simp only[lS];exact h.aw
 up:=by
  rw[M0]
  refine⟨h.up,List.pairwise_singleton _ _,fun a ha b hb=>?_⟩
  simp at hb
  subst hb
  obtain⟨j,hj,e⟩:=Cu ha
  have hf:=h.fit j a (by rw[<- e];exact bZ hj)
  exact⟨hf.n,hf.t,hf.a,hf.f⟩
theorem iM.pop{K:List dt}{k:dt}(h:iM N L T A (K++[k])):iM (N.take k.n) (L.take k.f) (T.take k.t) (A.take k.a) K/\N.take k.n=N.filter (λx=>decide (x.fr<(aA K:Int)+1))/\L.take k.f=L.filter (λx=>decide (x.2<(aA K:Int)+1)):=by
 have a:=h.fit (aA K) k bK;refine⟨⟨a.ts,a.aw,λp l=>h.ok p (gR l),λx b=>?_,λx b=>?_,λj q e=>?_,(M0.1 h.up).1⟩,a.ns,a.fs⟩;rw[a.ns,pS]at b;have:=b.2;exact nJ;rw[a.fs,pS]at b;have:=b.2;exact nJ;have o:=KQ e;have c:=h.fit j q (by rw[ei o];exact e);have f:dt.le q k:=(M0.1 h.up).2.2 q (cm e) k bK;obtain⟨r,s,i,m⟩:=f;have n:(N.take k.n).take q.n=N.take q.n:=by rw[rN,jR r]
 have d:(L.take k.f).take q.f=L.take q.f:=by rw[rN,jR m]
 have g:(T.take k.t).take q.t=T.take q.t:=by rw[rN,jR s]
 have t:(A.take k.a).take q.a=A.take q.a:=by rw[rN,jR i]
 refine⟨?_,?_,?_,?_,?_,?_,?_,?_⟩;rw[eF];have:=a.n;omega;rw[eF];have:=a.f;omega;rw[eF];have:=a.t;omega;rw[eF];have:=a.a;omega;rw[n,c.ns,a.ns,List.filter_filter];refine List.filter_congr (λx _=>?_);by_cases b:x.fr<(j:Int)+1;have:x.fr<(aA K:Int)+1:=bH;simp[b,this];simp[b];rw[d,c.fs,a.fs,List.filter_filter];refine List.filter_congr (λx _=>?_);by_cases b:x.2<(j:Int)+1;have:x.2<(aA K:Int)+1:=bH;simp[b,this];simp[b];rw[g,d];exact c.ts;rw[t,d];exact c.aw
theorem nD.snoc{F:Int}(h:nD t T L)(d:T'.Nodup)(c:eQ T T' (Z1 t nd)):nD t T' (L++[(nd,F)]):=by refine⟨d,λ_=>?_⟩;rw[c.mem,h.mem];constructor;rintro(⟨p,a,b⟩|b);exact⟨p,by simp[a],b⟩;exact⟨(nd,F),bK,b⟩;rintro⟨p,a,b⟩;rcases da.1 a with a|a;exact aO ⟨p,a,b⟩;simp at a;subst a;exact aP b
theorem qE1{α:Type}{l m:List α}(h:l<+:m)(a:n<=aA l):m.take n=l.take n:=by obtain⟨_,rfl⟩:=h;exact Ro a
theorem iM.take{N:a6}{L:br}{T A T' A':aY}{K:List dt}{nd:Nd}(h:iM N L T A K)(eM:dZ nd)(hT:eQ T T' (Z1 aS nd))(hA:eQ A A' (Z1 aT nd))(hTn:T'.Nodup)(hAn:A'.Nodup):iM N (L++[(nd,(aA K:Int))]) T' A' K where
 ts:=h.ts.snoc hTn hT
 aw:=h.aw.snoc hAn hA
 ok:=by
  intro p hp
  rcases da.1 hp with hp|hp
  ·exact h.ok p hp
  ·simp at hp;subst hp;exact eM
 wU:=h.wU
 zb:=by
  intro p hp
  rcases da.1 hp with hp|hp
  ·exact h.zb p hp
  ·simp at hp;subst hp;exact zD _
 fit:=by
  intro j k hk
  have hf:=h.fit j k hk
  have hj:=KQ hk
  have e1:(L++[(nd,(aA K:Int))]).take k.f=L.take k.f:=Ro hf.f
  refine⟨hf.n,by have:=hf.f;simp;omega,dm hf.t hT.pre.length_le,dm hf.a hA.pre.length_le,hf.ns,?_,?_,?_⟩
  ·rw[e1,zD0 (by simp;omega)];exact hf.fs
  ·rw[e1,qE1 hT.pre hf.t];exact hf.ts
  ·rw[e1,qE1 hA.pre hf.a];exact hf.aw
 up:=h.up
theorem qd3(h:nD t T L)(i:∀p∈L,dZ p.1)(g:dZ nd)(k:T'.Nodup)(n:eQ T T' (Z1 t nd)):wR t (L.map Prod.fst) nd=aA T':=by
 unfold wR;have m:∀x,x∈T'↔x∈z8 t (L.map Prod.fst++[nd]):=by intro x;rw[(h.snoc (F:=0) k n).mem,Z9];constructor;rintro⟨p,b,c⟩;rcases da.1 b with b|b;exact⟨p.1,by simp;exact aO ⟨p.2,b⟩,c⟩;simp at b;subst b;exact⟨nd,bK,c⟩;rintro⟨q,a,c⟩;rcases da.1 a with a|a;obtain⟨p,b,rfl⟩:=dP.1 a;exact⟨p,by simp[b],c⟩;simp at a;subst a;exact⟨(q,0),bK,c⟩
 have d:∀q∈L.map Prod.fst++[nd],dZ q:=by intro q a;rcases da.1 a with a|a;obtain⟨p,b,rfl⟩:=dP.1 a;exact i p b;simp at a;subst a;exact g
 refine jw1 k m (λx c y f e=>?_);obtain⟨p,b,c⟩:=Z9.1 c;obtain⟨q,a,f⟩:=Z9.1 f;have j:=vN (d p b);have l:=vN (d q a);cases t with|true=>(exact Ow (j.1 x c) (l.1 y f) e)|false=>exact Ox (j.2 x c) (l.2 y f) e
theorem jh6{f:Nd}(h:dZ f):∀x∈Z1 aT f,∀p∈po x,p∈Z1 aS f:=by induction h with|truth _=>(intro x hx;simp[Z1,z8,Y3]at hx)|con _ g e=>(intro x hx p a;simp only[Z1]at hx⊢;rw[if_neg oF]at hx;rw[if_neg oF];obtain⟨q,c,hx⟩:=Z9.1 Ck;simpa using Z9.2 ⟨q,c,e q c x hx p a⟩)|two d b hb=>(intro x hx p a;simp[Z1,z8,Y3,x6 b,x6 hb]at hx;subst hx;simp[po,J6]at a;simp[Z1,z8,Y3];rcases a with rfl|rfl;exact aO (Ez b);exact aP (Ez hb))|le d b hb j i=>intro x hx p a;simp[Z1,z8,Y3,x6 b,x6 hb]at hx;subst hx;simp[po,J6]at a;simp[Z1,z8,Y3];rcases a with rfl|rfl;exact aO (Ez b);exact aP (Ez hb)
theorem jN1(e:nD aS T L)(f:nD aT A L)(a:∀p∈L,dZ p.1):AC T A:=by intro x g;obtain⟨q,b,c⟩:=(f.mem x).1 g;exact⟨(vN (a q b)).2 x c,λp d=>(e.mem p).2 ⟨q,b,jh6 (a q b) x c p d⟩⟩
theorem iM.ac{K:List dt}{k:dt}(h:iM N L T A (K++[k])):AC (T.take k.t) (A.take k.a):=by have a:=h.fit (aA K) k bK;exact jN1 a.ts a.aw (λp b=>h.ok p (gR b))
theorem qP4{A':aY}{K:List dt}(h:iM N L T A K)(k:s.size<=600)(g:Y4 N s.toList=.ok nd us)(a:dZ nd)(j:aA L<20)(f:eQ T T' (Z1 aS nd))(i:eQ A A' (Z1 aT nd))(b:T'.Nodup)(d:A'.Nodup):dV N (L.map Prod.fst) s=(0,ov (aA T') (aA A'),if ov (aA T') (aA A')=0 then aQ nd else aR):=by unfold dV;rw[bL bH,g];simp only;rw[bL bQ,qd3 h.ts h.ok a b f,qd3 h.aw h.ok a d i];unfold ov;by_cases c:12<aA T';simp[c];by_cases e:16<aA A';simp[c,e];simp[c,e]
theorem qP5(a:600<s.size):dV N Q s=(0,1,aR):=by unfold dV;rw[bO a]
theorem jx5{e:Int}{p:Nat}(b:s.size<=600)(a:Y4 N s.toList=.no e p):dV N Q s=((p:Int),e,aR):=by unfold dV;rw[bL bH,a]
theorem qP6(c:s.size<=600)(b:Y4 N s.toList=.ok nd us)(a:20<=aA Q):dV N Q s=(0,8,aR):=by unfold dV;rw[bL bH,b];simp only;rw[bO a]
end
section
open Go.RowKit Go.Maps
variable{D F S:aj}{A':aY}{cs:ak}{nd:Nd}{d:Nat}
theorem FT.cut{w:ao}{A:aY}(h:FT w D A cs nd)(j:A'<+:A):(∀x∈Z1 aT nd,x∈A')->FT w D A' cs nd:=by induction h with| @atom word v ps q=>(intro c;have a:.mk 2 word v ps∈A':=c (.mk 2 word v ps) (by rw[Z1,if_pos oF];simp);have b:=FT.atom (w:=w) (D:=D) (A:=A') a;rw[<-Iq j a]at b;exact b)|node e d k m g o n=>intro c;refine .node e d k m g (λi cs p b f=>n i cs p b f (λx l=>c x ?_));rw[Z1,if_neg (by simpa[Y3]using e)];exact Z9.2 ⟨p,List.mem_of_getElem? f,l⟩
section
variable{w w':ao}{sb:Nat}{N N':a6}{L:br}{T A:aY}{K K':List dt}{nv:au}{xs:PX}{D:aj}{Y:List ak}
theorem FT.Zft(h:FT w D A' cs nd)(f:dH w sb N nv xs T A Y K)(d:∀q,D q->¬aB xs.fs=aQ q):FT w (λq=>D q/\¬SF sb nv xs q) A' cs nd:=by replace h:=h.free f.p;induction h with|atom r=>(exact .atom r)|node k a m o c t s=>refine .node k a m o (λg b=>⟨(c g b).1,?_⟩) (λi cs p l n=>s i cs p l n);obtain⟨_,j⟩:=O4 a b;rintro(e|e|e|e);exact(c g b).2 e;exact K8 f.pz j bJ e;exact d g (c g b).1 e;exact K8 f.ow j bJ e
structure PL(w:World)(sb:Nat)(N:a6)(L:br)(T A:aY)(K:List dt)(nv:Value)(xs:PX)(D:Nat->Prop)(Y:List (List Value)):Prop where
 ss:dH w sb N nv xs T A Y K
 yl:aA Y=aA L
 ft:∀ (i:Nat) (cs:List Value) (p:Nd × Int),Y[i]?=aQ cs->L[i]?=aQ p->FT w D A cs p.1
 st:iM N L T A K
 fw:∀ p∈L,ee p.1
 dk:∀ k,D k->k<w.heap.size/\¬SF sb nv xs k
def wV(w:ao)(sb:Nat)(N:a6)(L:br)(d:Nat)(F:aj):Prop :=
 ∃ T A K nv xs D Y,PL w sb N L T A K nv xs D Y/\aA K=d/\F=fun k=>SF sb nv xs k\/D k
def uw(w:ao)(F:aj)(sb:Nat)(N:a6)(L:br)(d:Nat)(w':ao):Prop :=
 q9 F w w'/\∃ a,wV w' sb N L d a/\∀ k,a k->F k\/w.heap.size<=k
theorem PL.lt(h:PL w sb N L T A K nv xs D Y):∀k,SF sb nv xs k\/D k->k<w.heap.size:=λk a=>a.elim (h.ss.lt k) (λe=>(h.dk k e).1)
theorem wV.lt(h:wV w sb N L d F):∀k,F k->k<w.heap.size:=by obtain⟨_,_,_,_,_,_,_,a,_,rfl⟩:=h;exact a.lt
theorem PL.ext(h:PL w sb N L T A K nv xs D Y)(b:q9 S w w')(c:∀k,SF sb nv xs k\/D k->¬S k):PL w' sb N L T A K nv xs D Y:=⟨h.ss.ext b (λk a=>c k (aO a)),h.yl,λi cs p e d=>(h.ft i cs p e d).ext b (λk _ hd=>c k (aP hd)),h.st,h.fw,λk a=>⟨cC (h.dk k a).1 b.size,(h.dk k a).2⟩⟩
theorem wV.ext(h:wV w sb N L d F)(c:q9 S w w')(b:∀k,F k->¬S k):wV w' sb N L d F:=by obtain⟨T,A,K,nv,xs,D,Y,a,hd,rfl⟩:=h;exact⟨T,A,K,nv,xs,D,Y,a.ext c b,hd,rfl⟩
theorem PL.same(h:PL w sb N L T A K nv xs D Y)(g:jM w sb nv xs N' T A Y K' w')(j:iM N' L T A K'):uw w (λk=>SF sb nv xs k\/D k) sb N' L (aA K') w':=by obtain⟨c,b,a,f,hF⟩:=g;refine⟨c.I (λ_ _ e=>aO e),_,⟨T,A,K',b,a,D,Y,⟨f,h.yl,λi cs p d e2=>(h.ft i cs p d e2).ext c (λk _ hd=>(h.dk k hd).2),j,h.fw,λk hk=>⟨cC (h.dk k hk).1 c.size,λe=>?_⟩⟩,rfl,rfl⟩,λk hk=>?_⟩;exact TG;exact Ziy
theorem PL.Zfu{T':aY}(h:PL w sb N L T A K nv xs D Y)(x:jM w sb nv xs N T' A' (Y++[cs]) K w')(t:za w sb A' cs nd w')(v:eQ T T' (Z1 aS nd))(r:eQ A A' (Z1 aT nd))(o:dZ nd)(m:ee nd):uw w (λk=>SF sb nv xs k\/D k) sb N (L++[(nd,(aA K:Int))]) (aA K) w':=by obtain⟨n,b,a,g,hF⟩:=x;have c5:=z7 g.p.ts.bP 5;have q:=FT.Zft t g (λ_ u=>u.2 a.fs c5);have j:∀k,D k->¬SF sb b a k:=λk hk e=>TG;refine⟨n.I (λ_ _ e=>aO e),_,⟨T',A',K,b,a,λk=>D k\/(w.heap.size<=k/\k<w'.heap.size/\¬SF sb b a k),Y++[cs],⟨g,by simp[h.yl],λi c p f e2=>?_,h.st.take o v r g.p.ts.nd g.p.nd,λp d=>?_,λk hk=>?_⟩,rfl,rfl⟩,λk hk=>?_⟩;by_cases s:i<aA Y;rw[ei s]at f;rw[ei (by rw[<-h.yl];exact s)]at e2;exact(((h.ft i c p f e2).ext n (λk _ hd=>(h.dk k hd).2)).pre r.pre).I (λk _ hd=>aO hd);have y:=(ck.1 f).1;simp at y;have l:i=aA Y:=bH;subst l;rw[du (cj _)]at f;rw[du (by rw[h.yl];exact Cn),h.yl]at e2;simp at f e2;subst f e2;exact q.I (λk hk hd=>aP ⟨hd.1.1,hk,hd.2⟩);rcases da.1 d with d|d;exact h.fw p d;simp at d;subst d;exact m;rcases hk with hk|hk;exact⟨cC (h.dk k hk).1 n.size,j k hk⟩;exact hk.2;rcases hk with hk|hk|hk;exact(hF k hk).imp aO id;exact aO (aP hk);exact aP hk.1
theorem PL.Zfv{fr:dt}(h:PL w sb N L T A (K++[fr]) nv xs D Y)(f:jM w sb nv xs (N.take fr.n) (T.take fr.t) (A.take fr.a) (Y.take fr.f) K w'):uw w (λk=>SF sb nv xs k\/D k) sb (N.filter (λx=>decide (x.fr<(aA K:Int)+1))) (L.filter (λx=>decide (x.2<(aA K:Int)+1))) (aA K) w':=by obtain⟨a,c,b,q,hF⟩:=f;obtain⟨m,l,d⟩:=h.st.pop;have j:=h.st.fit (aA K) fr bK;rw[<-l,<-d];refine⟨a.I (λ_ _ e=>aO e),_,⟨T.take fr.t,A.take fr.a,K,c,b,D,Y.take fr.f,⟨q,by simp[h.yl],λi cs p n e2=>?_,m,λp g=>h.fw p (gR g),λk hk=>⟨cC (h.dk k hk).1 a.size,λe=>?_⟩⟩,rfl,rfl⟩,λk hk=>?_⟩;obtain⟨_,o⟩:=nh n;obtain⟨_,r⟩:=nh e2;refine((h.ft i cs p o r).ext a (λk _ hd=>(h.dk k hd).2)).cut (List.take_prefix _ _) (λx a=>?_);exact(j.aw.mem x).2 ⟨p,cm e2,a⟩;exact TG;exact Ziy
end
end
end Go.Proofs.YtegbdaffhpiacaaGreatDoor
