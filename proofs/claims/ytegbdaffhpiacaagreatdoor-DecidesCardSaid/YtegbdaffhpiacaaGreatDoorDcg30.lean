/- Part. -/
import Derived.Test.YtegbdaffhpiacaaGreatDoorDcg22
import Derived.Test.YtegbdaffhpiacaaGreatDoorDcg37
import Derived.Test.YtegbdaffhpiacaaGreatDoorDcg48
import Derived.Laws.IdiomCopy
import Derived.Maps.OwnSet
import Derived.Maps.Views
import Derived.DeepKeys4
set_option maxRecDepth 100000
set_option maxHeartbeats 1000000
namespace Go.Proofs.YtegbdaffhpiacaaGreatDoor
open Go.RowKit Ar
section
open Go.Proofs.Tryz
variable{N:List Nm}{e:Ending}{p F a c:Int}{s:ax}{sb ps rs f:Nat}{nv pv rv lv r:au}{S:aj}{w w' W:ao}{args:Array au}{Q:ao->aj->Prop}
theorem Vw{l:List UInt8}{e:Int}{p:Nat}(h:Y4 N l=.no e p):e≠0:=by have b:=jM9 N (bQ l).length 0 (bQ l) (FK l 0 []) (aW _);unfold Y4 at h;split at h;rename_i d c a;simp at h;obtain⟨rfl,rfl⟩:=h;exact b.1 _ _ a;rename_i nd a;exact absurd (b.2 _ _ a).1 qx;split at h;exact gK;simp at h;obtain⟨rfl,rfl⟩:=h;decide
theorem MT{nd:Nd}{ts:List Tk}(i:s.size<=600)(h:Y4 N s.toList=.ok nd ts):qS nd/\(Z0 nd).length<=1000000:=by unfold Y4 at h;split at h;exact gK;exact gK;rename_i d t e a;split at h;simp at h;obtain⟨rfl,_⟩:=h;have c:=LG N _ _ _ _ _ (LK s.toList 600 0 [] Zdb aA) a;have b:=LI s.toList;rw[Z6]at b;have g:=c.1;refine⟨jx2 N _ _ _ _ _ a,?_⟩;have f:(cY 0 [] s.toList).length=(bQ s.toList).length:=rfl;omega;exact gK
theorem Vx(s:ax)(w:ao)(r:s.size<=maxLen)(l:Gj w sb nv N)(g:ju w)(o:kU w):cP 52 #[pT sb,ai s] w λe w'=>∃X:ax,e=.returned (.tuple #[ai X,iI (U2 N s).2.1,iI (U2 N s).2.2])/\X.toList=(U2 N s).1/\eX w w':=by have c0:=l.sl;by_cases hs:600<s.size;{have q:=q8 (UJ (pT sb) s w hs r);have b:Hid (U2 N s=([],0,1)):=by{show _=_;unfold U2;rw[aJ hs]};clear l g o hs r;delta cP;go_in;go_wp2_with fail;refine q.mono ?_;rintro e n ⟨rfl,a⟩;have c:=q8 a;clear a;go_wp2_with fail;go_ret3;rw[b.o];exact⟨_,rfl,se,c.alloc _⟩};have d:s.size<=600:=aA;obtain⟨q,F⟩:=aH (Gl s w d l g) o;cases hr:Y4 N s.toList with|no e p=>(have b:Hid (U2 N s=([],(p:Int),e)):=Zia;have C:(e !=0)=true:=by{simpa using Vw hr};have y:=q8 hr;clear l g o hs r hr d;delta cP;go_in;go_wp2_with fail;refine q.o.mono ?_;rintro B n ⟨a,h⟩;rw[y.o]at h;have x:B=_:=h;subst x;have c:=q8 a;clear a h;go_wp2_with fail;go_ret3;rw[b.o];exact⟨_,rfl,se,c.o.alloc _⟩)|ok nd D=>have b:Hid (U2 N s=(Z0 nd,0,0)):=Zia;obtain⟨j,y⟩:=aH (MT d hr) hr;clear l g o hs r hr d;delta cP;go_in;go_wp2_with fail;refine q.o.mono ?_;rintro B n ⟨a,h⟩;rw[y.o]at h;obtain⟨k,wd,v,A,z,sc,rfl,m⟩:=h;have c:Hid (eX w (n.alloc (.cells #[iI k,ai wd,iI v,.slice A z sc] 115))):=a.alloc _;have t:=q8 ((m.ext ((eR n).alloc (.cells #[iI k,ai wd,iI v,.slice A z sc] 115)) (λ_ _ _ f=>f)).mono (D':=λ_=>True) (λ_ _ _=>bk));clear a m;go_wp2_with fail;refine(jS2 k v wd A z sc nd j.o.1 t.o (F.o.ext c.o id) j.o.2).mono ?_;rintro e E ⟨rfl,i⟩;have u:Hid (eX w E):=c.o.trans i;clear i;go_wp2_with fail;go_ret3;rw[b.o];exact⟨_,rfl,mF _,u.o⟩
structure PX where
 ts:Value
 tm:Value
 at_:Value
 am:Value
 fs:Value
 ks:Value
 vd:Value
 ml:Value
structure PS(w:World)(sb:Nat)(N:List Nm)(nv:Value)(xs:PX):Prop where
 aL:w.heap[sb]?=some (.cells #[nv,xs.ts,xs.tm,xs.at_,xs.am,xs.fs,xs.ks,xs.vd,xs.ml] 98)
 own:w.ownsRow 0 142 2 nv N.length (W9 N)
 sep:∀ g,nv.ownBlock=some g->¬g=sb
 bL:N.length<=20
 ok:∀ x∈N,0<=x.ar/\x.ar<=3
theorem PS.ext{xs:PX}(h:PS w sb N nv xs)(a:q9 S w w')(c:¬S sb)(b:∀g,nv.ownBlock=some g->¬S g):PS w' sb N nv xs:=⟨(a.block _ (j9 h.aL) c).trans h.aL,j8 h.own a b,h.sep,h.bL,h.ok⟩
theorem PS.gC{xs:PX}(h:PS w sb N nv xs):Gj w sb nv N:=⟨h.bL,h.ok,z7 h.aL 0,j9 h.aL,h.own⟩
def MU(w:ao)(sb:Nat)(N:List Nm)(nv:au)(xs:PX)(F:Int)(s:ax)(a:Int)(e:Ending)(w':ao):Prop :=
 e=.returned (iI (J7 N s.toList a))/\q9 (fun k=>k=sb\/nv.ownBlock=some k) w w'/\∃ b,PS w' sb (Y0 N F s a) b xs/\(∀ k,b.ownBlock=some k->nv.ownBlock=some k\/w.heap.size<=k)
theorem GL{xs:PX}(h:PS w sb N nv xs)(d:eX w w')(b:J7 N s.toList a=c)(g:¬c=0):MU w sb N nv xs F s a (.returned (iI c)) w':=by refine⟨by rw[b],d.M,nv,?_,λ_ e=>Or.inl e⟩;rw[Y0,aF (by rw[b];exact g)];exact h.ext d id (λ_ _ f=>f)
theorem jo8{w0 f:ao}{g b:Nat}{xs:PX}(h:PS w sb N nv xs)(l:J7 N s.toList a=0)(Mn:0<=a)(Vv:a<=3)(j:N.length<20)(n:eX w w0)(d:w0.grownBy f nv.ownBlock)(c:f.ownsRow 0 142 2 (az g (N.length+1) b) (N.length+1) (W9 N++[ai s,iI a]))(aV:nv.ownBlock=some g\/w.heap.size<=g)(hW:q9 (·=sb) f W)(m:W.heap[sb]?=ad #[az g (N.length+1) b,xs.ts,xs.tm,xs.at_,xs.am,xs.fs,xs.ks,xs.vd,xs.ml] 98):MU w sb N nv xs F s a (.returned (iI 0)) W:=by have o:=j9 h.aL;have p:¬g=sb:=Zhu;have h1:q9 (λk=>nv.ownBlock=some k) w f:=(n.M).grown d (λk hk _=>hk);refine⟨by rw[l],?_,az g (N.length+1) b,?_,?_⟩;exact Zhj;rw[Y0,aJ l];refine⟨m,?_,?_,?_,?_⟩;rw[qr5,bK];exact j8 c hW (λk hk e=>ot);exact Ll;exact aM;exact Zgj;intro k hk;exact R1
theorem jo9(s:ax)(w:ao)(c:s.size<=8):cP 70 #[ai s] w λe w'=>e=.returned (ai s)/\eX w w':=by have a:=Tryz.stringslite_Clone s w aA;have b:=q8 a;clear a;delta cP;go_in;go_wp2_with fail;refine b.mono ?_;rintro e _ ⟨rfl,hb⟩;have HX:=q8 ((eR w).below hb);clear hb;go_wp2_with fail;exact SW
theorem Vy:(prog.info? 142).map (λi=>(i.zero,i.size,i.bytes))=some (some (.agg #[ai ay,iI 0]),2,24):=aG
theorem qU9{xs:PX}(F:Int)(s:ax)(a:Int)(h:PS w sb N nv xs)(L:s.size<=maxLen):cP 46 #[pT sb,ai s,iI a] w (MU w sb N nv xs F s a):=by obtain⟨c0,f0⟩:=cI h.aL 0 0;have P:=h.bL;have i:=j9 h.aL;have H:=q8 h;have O:=B6 s;obtain⟨d,q⟩:=aH O (FO a 0 3);obtain⟨ar,cap,S,_⟩:=TR h.own;subst S;clear h O;have cK:Hid (eX w (w.alloc (.cells #[ag,iI 0] 142))):=(rr w).alloc _;cases hn:X7 s.toList with|false=>(have u:Hid (J7 N s.toList a=3):=by{show _=_;rw[J7,aJ hn]};delta cP;go_in;go_wp2_with(go_at_call 67;refine(d.o _ L).mono ?_;rintro e w' ⟨rfl,rfl⟩);go_ret;exact GL H.o (rr _) u.o aE)|true=>by_cases hr:a<0\/3<a;{have u:Hid (J7 N s.toList a=4):=by{show _=_;rw[J7,aF yw,aJ hr]};have hd:decide (0<=a/\a<=3)=false:=gj aA;delta cP;go_in;(go_wp2_with first|(go_at_call 67;refine(d.o _ L).mono ?_;rintro e w' ⟨rfl,rfl⟩)|(go_at_call 68;refine(q.o _).mono ?_;rintro en w' ⟨rfl,rfl⟩));go_ret;exact GL H.o (rr _) u.o aE};have M:Hid (J7 N s.toList a=if(k9 N s.toList).isSome=true then 7 else if 20<=N.length then 8 else 0):=by{show _=_;rw[J7,aF yw,aF hr]};have hd:decide (0<=a/\a<=3)=true:=fS aA;obtain⟨X,U⟩:=aH hn (L8 s H.o.gC.sl H.o.own P i);cases D:k9 N s.toList with|some b=>(have u:Hid (J7 N s.toList a=7):=by{show _=_;rw[M.o,aJ (by rw[D];rfl)]};have n:Hid (nH N s=.tuple #[.agg #[ai s,iI b],ah]):=by{show _=_;unfold nH;rw[D]};clear D;delta cP;go_in;(go_wp2_with first|(go_at_call 67;refine(d.o _ L).mono ?_;rintro e w' ⟨rfl,rfl⟩)|(go_at_call 68;refine(q.o _).mono ?_;rintro en w' ⟨rfl,rfl⟩));have j:=U.o;rw[n.o]at j;refine j.mono ?_;clear j;rintro e y ⟨rfl,c⟩;have k:=q8 c;clear c;go_wp2;go_ret;exact GL H.o (k.o.alloc _) u.o aE)|none=>have lM:Hid (J7 N s.toList a=if 20<=N.length then 8 else 0):=by{show _=_;rw[M.o,aF (by rw[D];decide)]};have n:Hid (nH N s=.tuple #[.agg #[ag,iI 0],af]):=by{show _=_;unfold nH;rw[D]};clear D;by_cases GK:20<=N.length;{have u:Hid (J7 N s.toList a=8):=by{show _=_;rw[lM.o,aJ GK]};delta cP;go_in;(go_wp2_with first|(go_at_call 67;refine(d.o _ L).mono ?_;rintro e w' ⟨rfl,rfl⟩)|(go_at_call 68;refine(q.o _).mono ?_;rintro en w' ⟨rfl,rfl⟩));have j:=U.o;rw[n.o]at j;refine j.mono ?_;clear j;rintro e y ⟨rfl,c⟩;have c1:=(c.cell (p:=(aD sb 0)) i id).trans c0;have uK:sb<y.heap.size:=bD i c.size;have n1:¬sb=y.heap.size:=aA;have k:=q8 c;clear c;go_wp2;go_ret;exact GL H.o (k.o.alloc _) u.o aE};have u:Hid (J7 N s.toList a=0):=Zit;obtain⟨K,R,m,r,v⟩:=bJ Vy;have HI:Hid (prog.info? 142=some K/\K.zero=some (.agg #[ai ay,iI 0])/\K.size=2/\K.bytes=24):=⟨R,m,r,v⟩;clear R m r v;delta cP;go_in;(go_wp2_with first|(go_at_call 67;refine(d.o _ L).mono ?_;rintro e w' ⟨rfl,rfl⟩)|(go_at_call 68;refine(q.o _).mono ?_;rintro en w' ⟨rfl,rfl⟩));have j:=U.o;rw[n.o]at j;refine j.mono ?_;clear j;rintro e y ⟨rfl,c⟩;have c1:=(c.cell (p:=(aD sb 0)) i id).trans c0;have uK:sb<y.heap.size:=bD i c.size;have n1:¬sb=y.heap.size:=aA;have k:=q8 c;clear c;go_wp2;obtain⟨W,J⟩:∃W,y.alloc (.cells #[ag,iI 0] 142)=W:=⟨_,rfl⟩;have B:eX w W:=by{rw[<-J];exact k.o.alloc _};rw[J];clear J c0 c1 f0 n1;have HSZ:Hid (s.size<=8):=by{have h9:=Tq s;rw[X.o]at h9;simp at h9;show _<=_;omega};have z:=(B.block _ i id).trans H.o.aL;obtain⟨c0,f0⟩:=cI z 0 0;obtain⟨Z,_⟩:=aH B z;clear B z;obtain⟨R,m,r,v⟩:=HI.o;go_region_law (first|(refine step_append_lies _ (by rfl) _ _ _ (by rfl) 0 142 K _ 2 24 underlying76 R m r v rfl aA (.slice ar N.length cap) N.length (W9 N) (by rfl) ((j8 H.o.own aR.o (λ_ _ f=>f)).alloc _) (aD E.heap.size 0) 1 1 [ai s,iI a] (by rfl) (by rfl) (World.news_of_block (cs:=#[ai s,iI a]) (t:=142) (fr:=(0,0)) (aN E _)) rO aA bS aA (aY _) (E.heap.size+1) aC ?_;intro g I Q A l T _;have C:Q.heap[sb]?=ad #[.slice ar N.length cap,xs.ts,xs.tm,xs.at_,xs.am,xs.fs,xs.ks,xs.vd,xs.ml] 98:=(l.block sb aM (λe=>H.o.sep sb e.symm rfl)).trans ((gL E _ sb V).trans Y.o);have d0:=z7 C 0;have d0f:=Q9 C 0)|(go_simp;go_wp2_with(go_at_call 70;refine(jo9 s _ HSZ.o).mono ?_;rintro e E ⟨rfl,G⟩;have aR:Hid (eX w E):=(Z.o.drew).trans G;have x:=(aR.o.block _ i id).trans H.o.aL;have c2:=z7 x 0;have Y:=q8 x;have V:=j9 x;clear G x)));all_goals go_wp2;go_ret;have J:q9 (·=sb) Q (Q.setCell (aD sb 0) (az g (N.length+1) I)):=(q9.refl (·=sb) Q).sc sb 0 _;exact jo8 H.o u.o aA aA aA (w0:=E.alloc _) (aR.o.alloc _) l A (T.imp id (λe=>Zcv)) J (X6 C 0 _)
def PX.fg(xs:PX):PX := { xs with vd:=iI 0,ml:=.map none }
theorem jp0(w:ao)(b i j:Nat)(u v:au):q9 (λk=>k=b) w ((w.setCell (aD b i) u).setCell (aD b j) v):=((q9.refl (λk=>k=b) w).sc b i _).sc b j _
theorem MV{ts tm at_ b c ks g d:au}(a:w.heap[sb]?=ad #[nv,ts,tm,at_,b,c,ks,g,d] 98):cP 42 #[pT sb] w λe w'=>e=.returned (.tuple #[])/\q9 (λk=>k=sb) w w'/\w'.heap[sb]?=ad #[nv,ts,tm,at_,b,c,ks,iI 0,.map none] 98:=by obtain⟨_,_,_,_⟩:=dT a 7 8 7 8;have f:=q8 a;clear a;delta cP;go_in;go_wp2;go_end0;refine⟨rfl,jp0 _ _ _ _ _ _,?_⟩;exact X6 (X6 f 7 _) 8 _
def Vz(w:ao)(sb:Nat)(N:List Nm)(nv:au)(xs:PX)(F:Int)(s:ax)(a:Int)(e:Ending)(w':ao):Prop :=
 e=.returned (iI (J7 N s.toList a))/\q9 (fun k=>k=sb\/nv.ownBlock=some k) w w'/\∃ b,PS w' sb (Y0 N F s a) b (if J7 N s.toList a=0 then xs.fg else xs)/\(∀ k,b.ownBlock=some k->nv.ownBlock=some k\/w.heap.size<=k)
theorem qV0{xs:PX}(F:Int)(s:ax)(a:Int)(h:PS w sb N nv xs)(t:s.size<=maxLen):cP 20 #[pT sb,ai s,iI a] w (Vz w sb N nv xs F s a):=by have c0:=z7 h.aL 0;have r:=q8 (qU9 F s a h t);clear h;delta cP;go_in;go_wp2_with fail;refine r.mono ?_;rintro e _ ⟨rfl,n,i,l,p⟩;obtain⟨o,b,m⟩:=aQ n l p;clear n l p;by_cases h0:J7 N s.toList a=0;{have j:=q8 h0;rw[h0];clear h0;go_wp2_with fail;refine(MV b.aL).mono ?_;rintro e _ ⟨rfl,c,f⟩;obtain⟨d,k⟩:=aH c f;clear c f;go_wp2_with fail;go_ret;refine⟨by rw[j.o];rfl,o.trans (d.mono (λ_ _ e=>.inl e)),i,?_,m⟩;rw[aJ j.o];exact⟨k,j8 b.own d (λg q e=>b.sep g q e),b.sep,b.bL,b.ok⟩};have u:(J7 N s.toList a==0)=false:=ZcF;have j:=q8 h0;clear h0;go_wp2_with fail;go_ret;refine⟨rfl,o,i,?_,m⟩;rw[aF j.o];exact b
def i':PX:=⟨ae,.map none,ae,.map none,ae,ae,iI 0,.map none⟩
theorem Zd9(w:ao):cP 36 #[] w λe w'=>e=.returned (pT w.heap.size)/\eX w w'/\PS w' w.heap.size [] (ae) i'/\w'.heap.size=w.heap.size+1:=by delta cP;go_in;go_wp2;go_ret;refine⟨rfl,(rr w).alloc _,⟨aN w _,fu _ _ _ _,λ_ a=>absurd a gg,aC,λ_ h=>absurd h aC⟩,aC⟩
def CD(ps rs:Nat)(pv rv:au)(k:Nat):Prop:=k=ps\/k=rs\/pv.ownBlock=some k\/rv.ownBlock=some k
structure zq(w:World)(ps rs:Nat)(N:List Nm)(pv rv:Value)(xs:PX)(lv:Value)(F:Int):Prop where
 p:PS w ps N pv xs
 r:oW w rs N rv lv F
 ab:¬ps=rs
 pr:∀ g,pv.ownBlock=some g->¬g=rs
 rp:∀ g,rv.ownBlock=some g->¬g=ps
 vv:∀ g,pv.ownBlock=some g->¬rv.ownBlock=some g
theorem zq.ext{xs:PX}(h:zq w ps rs N pv rv xs lv F)(c:q9 S w w')(a:∀k,CD ps rs pv rv k->¬S k):zq w' ps rs N pv rv xs lv F:=⟨h.p.ext c (a _ (.inl rfl)) (λ_ b=>a _ (.inr (.inr (.inl b)))),h.r.ext c (a _ (.inr (.inl rfl))) (λ_ b=>a _ (.inr (.inr (.inr b)))),h.ab,h.pr,h.rp,h.vv⟩
theorem zq.lt{xs:PX}(h:zq w ps rs N pv rv xs lv F):∀k,CD ps rs pv rv k->k<w.heap.size:=by obtain⟨_,hb⟩:=h.r.aL;rintro k (rfl|rfl|e|e);exact j9 h.p.aL;exact j9 hb;exact(h.p.own.lt k e).2;exact(h.r.own.lt k e).2
def MW(w:ao)(ps rs:Nat)(c:List Nm)(pv rv:au)(xs:PX)(lv:au)(F:Int)(e:Ending)(w':ao):Prop :=
 e=.returned (.bool true)/\q9 (CD ps rs pv rv) w w'/\∃ a b,zq w' ps rs c a b xs lv F/\(∀ k,CD ps rs a b k->CD ps rs pv rv k\/w.heap.size<=k)
theorem MW.pW{c:List Nm}{xs:PX}(d:eX w W)(h:MW W ps rs c pv rv xs lv F e w'):MW w ps rs c pv rv xs lv F e w':=by obtain⟨g,j,a,b,i,l⟩:=h;exact⟨g,(d.M).trans j,a,b,i,λk f=>(l k f).imp id (λe=>cM d.size e)⟩
theorem qV1(a:Nat)(m:au)(n:au)(hb:w.heap[a]?=ad #[ae,m,n] 64):cP 35 #[pT a] w λe w'=>e=.returned (ah)/\w'=w:=by
 have c0:=z7 hb 0;clear hb;delta cP;go_in;go_wp2;go_loop [3](λi=>i=iI 0)(λ_=>0);case atStart=>rfl
 case round=>subst hrel;exact E9
def zr(c:Int):Nat:=if c<0 then((-(c+1))%2).toNat else(c%2).toNat
theorem qV2(c:Int):zr c=0\/zr c=1:=by unfold zr;exact ow
theorem jG7(c:Int)(w:ao)(b:-9223372036854775808<=c)(a:c<=9223372036854775807):cP 33 #[iI c,iI 2] w λe w'=>e=.returned (iI (zr c:Nat))/\w'=w:=by by_cases h:c<0;{go_enter func33,ntmps33;go_wp2;go_ret;have e:-(c+1).tmod 2=(-(c+1))%2:=by{rw[<-Int.neg_tmod,Int.tmod_eq_emod_of_nonneg aA]};refine⟨?_,rfl⟩;show Ending.returned (iI (-(c+1).tmod 2))=_;rw[e,zr,aJ h,BH aA]};go_enter func33,ntmps33;go_wp2;go_ret;refine⟨?_,rfl⟩;show Ending.returned (iI (c%2))=_;rw[zr,aF aA,BH aA]
def lN(Q:ao->aj->Prop):Prop:=∀ (w w':ao) (F S:aj),Q w F->q9 S w w'->(∀ k,F k->¬S k)->Q w' F
def qW(Q:ao->aj->Prop):Prop:=∀ (w:ao) (F:aj),Q w F->∀ k,F k->k<w.heap.size
def cO(W:ao)(F:aj)(Q:ao->aj->Prop)(b:ao):Prop:=q9 F W b/\∃ a,Q b a/\∀ k,a k->F k\/W.heap.size<=k
def gD(f:Nat)(args:Array au)(w:ao)(F:aj)(r:au)(Q:ao->aj->Prop):Prop :=
 ∀ (W:ao) (S:aj),q9 S w W->(∀ k,F k->¬S k)->Calls prog f args W fun e a=>e=.returned r/\cO W F Q a
def gU(f:Nat)(args:Array au)(w:ao)(F:aj)(r:au)(Q:ao->aj->Prop):Prop :=
 ∀ W:ao,eX w W->Calls prog f args W fun e a=>e=.returned r/\cO W F Q a
structure Pr(w:World)(Fp Fr:Nat->Prop)(P R:World->(Nat->Prop)->Prop):Prop where
 d:∀ k,Fp k->¬Fr k
 lp:∀ k,Fp k->k<w.heap.size
 lr:∀ k,Fr k->k<w.heap.size
 kp:lN P
 kr:lN R
 bp:qW P
def GM(w:ao)(Fp Fr:aj)(P R:ao->aj->Prop)(w':ao):Prop :=
 q9 (fun k=>Fp k\/Fr k) w w'/\∃ a b,P w' a/\R w' b/\(∀ k,a k->¬b k)/\∀ k,a k\/b k->(Fp k\/Fr k)\/w.heap.size<=k
def PP(w:ao)(Fp Fr:aj)(P R:ao->aj->Prop)(e:Ending)(w':ao):Prop:=e=.returned (.bool true)/\GM w Fp Fr P R w'
section
variable{w W W1 W2 W3 W4:ao}{Fp Fr:aj}{P R:ao->aj->Prop}
theorem Pr.two(h:Pr w Fp Fr P R)(l:eX w W)(s:cO W Fp P W1)(j:eX W1 W2)(t:cO W2 Fr R W3)(g:eX W3 W4):GM w Fp Fr P R W4:=by
 obtain⟨q,c,p,m⟩:=s;obtain⟨n,i,r,o⟩:=t;have u:=l.size;have s1:=q.size;have s2:=j.size;have b:∀k,c k->¬Fr k:=by intro k a d;rcases m k a with e|e;exact h.d k e d;have:=h.lr k d;omega
 refine⟨((((l.M).trans' q (λ_ _ f=>.inl f)).trans' j (λ_ _ f=>f.elim)).trans' n (λ_ _ f=>.inr f)).trans' g (λ_ _ f=>f.elim),c,i,?_,h.kr _ _ _ _ r g (λ_ _ f=>f),?_,?_⟩;exact h.kp _ _ _ _ p ((j.M).trans (n.trans' g (λ_ _ f=>f.elim))) b;intro k a d;rcases o k d with e|e;exact b k a e;have:=h.bp _ _ p k a;omega;rintro k (a|a);exact(m k a).imp .inl (λe=>aA);exact(o k a).imp .inr (λe=>aA)
theorem cO.same(h:P W Fp):cO W Fp P W:=⟨q9.refl _ _,Fp,h,λ_ e=>.inl e⟩
theorem cO.more(h:cO W Fp P W1)(k:lN P)(x:eX W1 W2):cO W Fp P W2:=by obtain⟨c,a,b,d⟩:=h;exact⟨c.trans' x (λ_ _ f=>f.elim),a,k _ _ _ _ b x (λ_ _ f=>f),d⟩
theorem cO.pre(x:eX W W1)(h:cO W1 Fp P W2):cO W Fp P W2:=by obtain⟨d,b,c,e⟩:=h;have:=x.size;exact⟨(x.M).trans d,b,c,λk a=>(e k a).imp id (λ_=>aA)⟩
theorem cO.at{b:Nat}{o:Obj}(h:cO W Fp P W1)(hb:W.heap[b]?=some o)(a:¬Fp b):W1.heap[b]?=some o:=(h.1.block _ (j9 hb) a).trans hb
theorem cO.CE(b:eX w W)(a:cO W Fp P W1):q9 Fp w W1:=(b.M).trans a.1
theorem PP.pW(x:eX w W)(h:PP W Fp Fr P R e W1):PP w Fp Fr P R e W1:=by obtain⟨d,i,a,b,f,l,g,j⟩:=h;have:=x.size;exact⟨d,(x.M).trans i,a,b,f,l,g,λk c=>(j k c).imp id (λe=>aA)⟩
theorem Pr.ext(h:Pr w Fp Fr P R)(x:eX w W):Pr W Fp Fr P R:=⟨h.d,λk a=>bD (h.lp k a) x.size,λk a=>bD (h.lr k a) x.size,h.kp,h.kr,h.bp⟩
end
theorem gU.ext{F:aj}(h:gU f args w F r Q)(x:eX w w'):gU f args w' F r Q:=λW a=>h W (x.trans a)
theorem gD.ext{F:aj}(h:gD f args w F r Q)(x:q9 S w w')(c:∀k,F k->¬S k):gD f args w' F r Q:=by intro W T b d;refine h W (λk=>S k\/T k) ((x.mono (λ_ _ e=>.inl e)).trans' b (λ_ _ e=>.inr e)) (λk a e=>e.elim (c k a) (d k a))
section
variable{w:ao}{ps rs:Nat}{Fp Fr:aj}{P R:ao->aj->Prop}
theorem VA(b:Int)(s:ax)(a:Int)(h:Pr w Fp Fr P R)(g:gU 20 #[pT ps,ai s,iI a] w Fp (iI c) P)(i:gD 79 #[pT rs,ai s,iI a] w Fr (iI c) R):cP 53 #[.agg #[pT ps,pT rs],.agg #[iI 1,iI b,ai s,iI a]] w (PP w Fp Fr P R):=by have HR:=q8 i;clear i;obtain⟨HH,HP⟩:=aH h g;clear h g;delta cP;go_in;go_wp2_with fail;obtain⟨W,hW⟩:∃W,(w.alloc (.cells #[pT ps,pT rs] 57)).alloc (.cells #[iI 1,iI b,ai s,iI a] 66)=W:=⟨_,rfl⟩;have kX:eX w W:=iy;have kA:W.heap[w.heap.size]?=ad #[pT ps,pT rs] 57:=jF;have kB:W.heap[w.heap.size+1]?=ad #[iI 1,iI b,ai s,iI a] 66:=jk;exact Zbk
theorem jV8(b:Int)(s:ax)(a:Int){X:ax}(h:Pr w Fp Fr P R)(g:gU 52 #[pT ps,ai s] w Fp (.tuple #[ai X,iI p,iI c]) P)(i:gD 81 #[pT rs,ai s] w Fr (.tuple #[ai X,iI p,iI c]) R):cP 53 #[.agg #[pT ps,pT rs],.agg #[iI 2,iI b,ai s,iI a]] w (PP w Fp Fr P R):=by have HR:=q8 i;clear i;obtain⟨HH,HP⟩:=aH h g;clear h g;delta cP;go_in;go_wp2_with fail;obtain⟨W,hW⟩:∃W,(w.alloc (.cells #[pT ps,pT rs] 57)).alloc (.cells #[iI 2,iI b,ai s,iI a] 66)=W:=⟨_,rfl⟩;have kX:eX w W:=iy;have kA:W.heap[w.heap.size]?=ad #[pT ps,pT rs] 57:=jF;have kB:W.heap[w.heap.size+1]?=ad #[iI 2,iI b,ai s,iI a] 66:=jk;exact Zbk
end
section
variable{w:ao}{ps rs:Nat}{Fp Fr:aj}{P R:ao->aj->Prop}
theorem jr7(b:Int)(s:ax)(a:Int)(h:Pr w Fp Fr P R)(g:gU 25 #[pT ps,ai s] w Fp (.tuple #[iI p,iI c]) P)(i:gD 82 #[pT rs,ai s] w Fr (.tuple #[iI p,iI c]) R):cP 54 #[.agg #[pT ps,pT rs],.agg #[iI 3,iI b,ai s,iI a]] w (PP w Fp Fr P R):=by have HR:=q8 i;clear i;obtain⟨HH,HP⟩:=aH h g;clear h g;delta cP;go_in;go_wp2_with fail;obtain⟨W,hW⟩:∃W,(w.alloc (.cells #[pT ps,pT rs] 57)).alloc (.cells #[iI 3,iI b,ai s,iI a] 66)=W:=⟨_,rfl⟩;have kX:eX w W:=iy;have kA:W.heap[w.heap.size]?=ad #[pT ps,pT rs] 57:=jF;have kB:W.heap[w.heap.size+1]?=ad #[iI 3,iI b,ai s,iI a] 66:=jk;exact Zbk
theorem VB(l:Int)(s:ax)(a:Int)(h:Pr w Fp Fr P R)(p:gU 18 #[pT ps] w Fp (iI c) P)(q:gD 83 #[pT rs] w Fr (iI c) R):cP 54 #[.agg #[pT ps,pT rs],.agg #[iI 4,iI l,ai s,iI a]] w (PP w Fp Fr P R):=by have x:=q8 q;clear q;obtain⟨HH,t⟩:=aH h p;clear h p;delta cP;go_in;go_wp2_with fail;obtain⟨W,hW⟩:∃W,(w.alloc (.cells #[pT ps,pT rs] 57)).alloc (.cells #[iI 4,iI l,ai s,iI a] 66)=W:=⟨_,rfl⟩;have b:eX w W:=iy;have r:W.heap[w.heap.size]?=ad #[pT ps,pT rs] 57:=jF;have u:W.heap[w.heap.size+1]?=ad #[iI 4,iI l,ai s,iI a] 66:=jk;rw[hW];clear hW;have i:=q8 b;refine(t W b).mono ?_;clear b t;rintro e n ⟨rfl,g⟩;have j:=g.at r (λf=>tE);have d:=g.at u (λf=>tE);have A:=z7 j 1;obtain⟨_,_⟩:=cz d 2 3;obtain⟨y,m⟩:=aH g (cO.CE i g);clear g r u j d;go_wp2_with fail;go_region_law (go_simp;go_wp2_with(first|(go_at_call 80;refine(LO _ _).mono ?_;rintro e _ ⟨rfl,rfl⟩)|(go_at_call 83;refine(x n.drew Fp m.drew (λk v e=>HH.d k e v)).mono ?_;rintro e _ ⟨rfl,o⟩;have z:=q8 o;clear o)));all_goals go_wp2_with fail;go_ret;exact⟨rfl,HH.two i y ((eR n).drew) z (rr _)⟩
theorem VC(l:Int)(s:ax)(a:Int)(h:Pr w Fp Fr P R)(p:gU 19 #[pT ps] w Fp (iI c) P)(q:gD 84 #[pT rs] w Fr (iI c) R):cP 54 #[.agg #[pT ps,pT rs],.agg #[iI 5,iI l,ai s,iI a]] w (PP w Fp Fr P R):=by have x:=q8 q;clear q;obtain⟨HH,t⟩:=aH h p;clear h p;delta cP;go_in;go_wp2_with fail;obtain⟨W,hW⟩:∃W,(w.alloc (.cells #[pT ps,pT rs] 57)).alloc (.cells #[iI 5,iI l,ai s,iI a] 66)=W:=⟨_,rfl⟩;have b:eX w W:=iy;have r:W.heap[w.heap.size]?=ad #[pT ps,pT rs] 57:=jF;have u:W.heap[w.heap.size+1]?=ad #[iI 5,iI l,ai s,iI a] 66:=jk;rw[hW];clear hW;have i:=q8 b;refine(t W b).mono ?_;clear b t;rintro e n ⟨rfl,g⟩;have j:=g.at r (λf=>tE);have d:=g.at u (λf=>tE);have A:=z7 j 1;obtain⟨_,_⟩:=cz d 2 3;obtain⟨y,m⟩:=aH g (cO.CE i g);clear g r u j d;go_wp2_with fail;go_region_law (go_simp;go_wp2_with(first|(go_at_call 80;refine(LO _ _).mono ?_;rintro e _ ⟨rfl,rfl⟩)|(go_at_call 84;refine(x n.drew Fp m.drew (λk v e=>HH.d k e v)).mono ?_;rintro e _ ⟨rfl,o⟩;have z:=q8 o;clear o)));all_goals go_wp2_with fail;go_ret;exact⟨rfl,HH.two i y ((eR n).drew) z (rr _)⟩
theorem jI0(m:Int)(s:ax)(a:Int){n:Nat}{d:Int}(h:Pr w Fp Fr P R)(r:gU 24 #[pT ps] w Fp (.tuple #[iI n,iI d]) P)(t:R w Fr)(hb:∀(W:ao)(F:aj),R W F->F rs/\∃nv u q cu,W.heap[rs]?=ad #[nv,.slice u n q,iI d,cu] 129):cP 54 #[.agg #[pT ps,pT rs],.agg #[iI 6,iI m,ai s,iI a]] w (PP w Fp Fr P R):=by obtain⟨D,C⟩:=aH t hb;clear t hb;obtain⟨HH,y⟩:=aH h r;clear h r;delta cP;go_in;go_wp2_with fail;obtain⟨W,hW⟩:∃W,(w.alloc (.cells #[pT ps,pT rs] 57)).alloc (.cells #[iI 6,iI m,ai s,iI a] 66)=W:=⟨_,rfl⟩;have b:eX w W:=iy;have v:W.heap[w.heap.size]?=ad #[pT ps,pT rs] 57:=jF;have z:W.heap[w.heap.size+1]?=ad #[iI 6,iI m,ai s,iI a] 66:=jk;rw[hW];clear hW;have j:=q8 b;refine(y W b).mono ?_;clear b y;rintro e _ ⟨rfl,i⟩;have l:=i.at v (λf=>tE);have g:=i.at z (λf=>tE);have H:=z7 l 1;obtain⟨G,A⟩:=cz g 2 3;obtain⟨E,p⟩:=aH i (cO.CE j i);clear i v z l g;have c:=HH.kr _ _ _ _ D p (λk B e=>HH.d k e B);obtain⟨_,nv,u,q,cu,x⟩:=C _ _ c;obtain⟨_,_⟩:=cz x 1 2;have o:=q8 c;clear c x G A;go_wp2_with fail;go_ret;exact⟨rfl,HH.two j E (rr _) (cO.same o) (rr _)⟩
end
section
variable{w:ao}{ps rs:Nat}{Fp Fr:aj}{P R:ao->aj->Prop}
theorem MX(k f:Int)(s:ax)(a:Int)(j:au)(i:k=1\/k=2)(g:∀W,eX w W->cP 53 #[.agg #[pT ps,pT rs],.agg #[iI k,iI f,ai s,iI a]] W (PP W Fp Fr P R)):cP 34 #[.agg #[pT ps,pT rs],.agg #[iI k,iI f,ai s,iI a],j] w (PP w Fp Fr P R):=by have h:=q8 g;clear g;rcases i with rfl|rfl;all_goals delta cP;go_in;go_wp2_with fail;refine(h _ (((rr w).alloc _).alloc _)).mono ?_;rintro _ _ e;have c:=e.pW (((rr w).alloc _).alloc _);obtain⟨rfl,b⟩:=c;have d:=q8 b;clear e b h;go_wp2_with fail;go_ret;exact⟨rfl,d⟩
theorem zt(k f:Int)(s:ax)(a:Int)(j:au)(i:k=3\/k=4\/k=5\/k=6)(g:∀W,eX w W->cP 54 #[.agg #[pT ps,pT rs],.agg #[iI k,iI f,ai s,iI a]] W (PP W Fp Fr P R)):cP 34 #[.agg #[pT ps,pT rs],.agg #[iI k,iI f,ai s,iI a],j] w (PP w Fp Fr P R):=by have h:=q8 g;clear g;rcases i with rfl|rfl|rfl|rfl;all_goals delta cP;go_in;go_wp2_with fail;refine(h _ (((rr w).alloc _).alloc _)).mono ?_;rintro _ _ e;have c:=e.pW (((rr w).alloc _).alloc _);obtain⟨rfl,b⟩:=c;have d:=q8 b;clear e b h;go_wp2_with fail;go_ret;exact⟨rfl,d⟩
theorem jI1(j:Int)(s:ax)(a:Int)(A:au){r:Bool}(h:Pr w Fp Fr P R)(n:gU 17 #[pT ps] w Fp (.bool r) P)(o:gD 55 #[pT rs] w Fr (.bool r) R):cP 34 #[.agg #[pT ps,pT rs],.agg #[iI 7,iI j,ai s,iI a],A] w (PP w Fp Fr P R):=by have m:=q8 o;clear o;obtain⟨HH,q⟩:=aH h n;clear h n;delta cP;go_in;go_wp2_with fail;obtain⟨W,hW⟩:∃W,(w.alloc (.cells #[pT ps,pT rs] 57)).alloc (.cells #[iI 7,iI j,ai s,iI a] 66)=W:=⟨_,rfl⟩;have b:eX w W:=iy;have p:W.heap[w.heap.size]?=ad #[pT ps,pT rs] 57:=jF;have t:W.heap[w.heap.size+1]?=ad #[iI 7,iI j,ai s,iI a] 66:=jk;rw[hW];clear hW;have cR:=q8 b;refine(q W b).mono ?_;clear b q;rintro e u ⟨rfl,d⟩;have g:=d.at p (λf=>tE);have c:=d.at t (λf=>tE);have z:=z7 g 1;obtain⟨y,v⟩:=cz c 2 3;obtain⟨H1,i⟩:=aH d (cO.CE cR d);clear d p t g c;go_wp2_with fail;refine(m u Fp i (λk x e=>HH.d k e x)).mono ?_;rintro e _ ⟨rfl,l⟩;have H2:=q8 l;clear l z y v m i;cases r<;>{go_wp2_with fail;exact ZjJ}
theorem jV9(k b:Int)(s:ax)(a:Int)(g:au)(h:Pr w Fp Fr P R)(c:P w Fp)(d:R w Fr)(e:k<=0):cP 34 #[.agg #[pT ps,pT rs],.agg #[iI k,iI b,ai s,iI a],g] w (PP w Fp Fr P R):=by obtain⟨H,i,f⟩:=aQ h c d;have r:(k==1)=false:=aM;have p:(k==2)=false:=aM;have t:(k==3)=false:=aM;have u:(k==4)=false:=aM;have l:(k==5)=false:=aM;have o:(k==6)=false:=aM;have m:(k==7)=false:=aM;have q:(k==8)=false:=aM;have n:(k==9)=false:=aM;have j:Hid (eX w ((w.alloc (.cells #[pT ps,pT rs] 57)).alloc (.cells #[iI k,iI b,ai s,iI a] 66))):=((rr w).alloc _).alloc _;clear h c d e;delta cP;go_in;go_wp2;go_ret;exact⟨rfl,H.two (rr _) (cO.same i) (rr _) (cO.same f) j⟩
end
def bX:ax:=⟨#[120]⟩
def bY:ax:=⟨#[121]⟩
def bF:ax:=⟨#[102]⟩
def zu:ax:=⟨#[32,40,32,61,32,32,40,102,32,120,41,32,32,121,41]⟩
def Ze0:ax:=⟨#[40,61,32,40,102,32,120,41,32,121,41]⟩
def p4:List Nm:=[⟨bX,0,0⟩,⟨bY,0,0⟩,⟨bF,1,0⟩]
theorem Za6:Y0 [] 0 bX 0=[⟨bX,0,0⟩]:=ZbW
theorem Za7:Y0 [⟨bX,0,0⟩] 0 bY 0=[⟨bX,0,0⟩,⟨bY,0,0⟩]:=ZbW
theorem Za8:Y0 [⟨bX,0,0⟩,⟨bY,0,0⟩] 0 bF 1=p4:=ZbW
theorem VD:U2 p4 zu=(Ze0.toList,0,0):=aG
structure MY(P R:Nat->List Nm->World->(Nat->Prop)->Prop):Prop where
 kp:∀ b N,lN (P b N)
 kr:∀ b N,lN (R b N)
 lp:∀ b N,qW (P b N)
 lr:∀ b N,qW (R b N)
 new:∀ w,cP 36 #[] w fun e w'=>e=.returned (pT w.heap.size)/\eX w w'/\∃ F,P w.heap.size [] w' F/\∀ k,F k->w.heap.size<=k
 ref:∀ (w:World) (b:Nat),w.heap[b]?=some (.cells #[ae,ae,iI 0,iI 0] 129)->R b [] w (fun k=>k=b)
 dp:∀ (b:Nat) (N:List Nm) (w:World) (F:Nat->Prop) (s:ByteArray) (a:Int),P b N w F->s.size<=maxLen->gU 20 #[pT b,.string s,iI a] w F (iI (J7 N s.toList a)) (P b (Y0 N 0 s a))
 dr:∀ (b:Nat) (N:List Nm) (w:World) (F:Nat->Prop) (s:ByteArray) (a:Int),R b N w F->s.size<=maxLen->gD 79 #[pT b,.string s,iI a] w F (iI (J7 N s.toList a)) (R b (Y0 N 0 s a))
 tidy:∀ (b:Nat) (w:World) (F:Nat->Prop),P b p4 w F->ju w->kU w->cP 52 #[pT b,.string zu] w fun e w'=>∃ X:ByteArray,e=.returned (.tuple #[.string X,iI (U2 p4 zu).2.1,iI (U2 p4 zu).2.2])/\X.toList=(U2 p4 zu).1/\eX w w'
structure CF(w:World)(pb:Nat)(P R:World->(Nat->Prop)->Prop)(ps rs:Nat)(Fp Fr:Nat->Prop)(wi:World):Prop where
 ext:eX w wi
 res:wi.heap[w.heap.size]?=some (.cells #[.pointer none,.pointer none] 57)
 zv:wi.heap[pb]?=some (.cells #[pT ps,pT rs] 57)
 p:P wi Fp
 r:R wi Fr
 d:∀ k,Fp k->¬Fr k
 f:∀ k,Fp k\/Fr k->w.heap.size<k/\¬k=pb
section
variable{P R:Nat->List Nm->ao->aj->Prop}{w wi w':ao}{pb ps rs:Nat}{N:List Nm}{Fp Fr:aj}
theorem jr9{p r j d:ao->aj->Prop}(h:CF w pb p r ps rs Fp Fr wi)(q:PP wi Fp Fr j d e w'):e=.returned (ah)/\∃a b,CF w pb j d ps rs a b w':=by obtain⟨t,c,a,b,o,l,s,n⟩:=q;have x:=h.ext.size;have u:=j9 h.res;have v:=j9 h.zv;refine⟨t,a,b,h.ext.trans' c (λi _ f=>by have:=(h.f i f).1;omega),(c.block _ u (λf=>by have:=(h.f _ f).1;omega)).trans h.res,(c.block _ v (λf=>(h.f _ f).2 rfl)).trans h.zv,o,l,s,?_⟩;intro k m;rcases n k m with g|g;exact h.f k g;exact rP
theorem MZ(b:MY P R)(i:Int)(s:ax)(a:Int)(l:au)(k:s.size<=maxLen)(h:CF w pb (P ps N) (R rs N) ps rs Fp Fr wi):cP 34 #[.agg #[pT ps,pT rs],.agg #[iI 1,iI i,ai s,iI a],l] wi (λe w'=>e=.returned (ah)/\∃j g,CF w pb (P ps (Y0 N 0 s a)) (R rs (Y0 N 0 s a)) ps rs j g w'):=by have d:Pr wi Fp Fr (P ps (Y0 N 0 s a)) (R rs (Y0 N 0 s a)):=⟨h.d,b.lp _ _ _ _ h.p,b.lr _ _ _ _ h.r,b.kp _ _,b.kr _ _,b.lp _ _⟩;refine(MX 1 i s a l (.inl rfl) (λ_ c=>VA i s a (d.ext c) ((b.dp ps N wi Fp s a h.p k).ext c) ((b.dr rs N wi Fr s a h.r k).ext c (λ_ _ f=>f)))).mono ?_;intro e w' m;exact jr9 h m
theorem jW0(O:MY P R)(w:ao)(C:ju w)(n:kU w):cP 32 #[] w λe w'=>∃ps rs Fp Fr,e=.returned (.tuple #[.agg #[pT ps,pT rs],ah])/\eX w w'/\P ps p4 w' Fp/\R rs p4 w' Fr/\(∀k,Fp k->¬Fr k)/\∀k,Fp k\/Fr k->w.heap.size<=k:=by
 obtain⟨g,H,t⟩:=aQ O C n;clear O C n;delta cP;go_in;go_wp2_with fail;obtain⟨w0,d⟩:∃w0,w.alloc (.cells #[.pointer none,.pointer none] 57)=w0:=⟨_,rfl⟩;have r:Hid (eX w w0):=by rw[<-d];exact Bo
 have B:Hid (w0.heap[w.heap.size]?=ad #[.pointer none,.pointer none] 57):=by rw[<-d];exact pB
 have y:Hid (w0.heap.size=w.heap.size+1):=by rw[<-d];show _=_;simp
 rw[d];clear d;refine(g.new w0).mono ?_;rintro e w1 ⟨rfl,x,Fp,q,E⟩;obtain⟨l,p,z⟩:=aQ x q E;clear x q E;go_wp2_with fail;obtain⟨G,c⟩:∃G,((w1.alloc (.cells #[ae,ae,iI 0,iI 0] 129)).alloc (.cells #[pT w0.heap.size,pT w1.heap.size] 57)).alloc (.cells #[ae,ae,iI 0] 64)=G:=⟨_,rfl⟩;have A:Hid (CF w (w1.heap.size+1) (P w0.heap.size []) (R w1.heap.size []) w0.heap.size w1.heap.size Fp (λk=>k=w1.heap.size) G):=by have K:eX w1 G:=by{rw[<-c];exact(((rr w1).alloc _).alloc _).alloc _};have F:=g.lp _ _ _ _ p;have Y:w0.heap.size=w.heap.size+1:=y;have s1:=l.o.size;refine⟨(r.trans l).trans K,?_,?_,g.kp _ _ _ _ _ _ p K (λ_ _ f=>f),g.ref _ _ ?_,λk b e=>by have:=F k b;omega,λk b=>?_⟩;exact((l.trans K).block _ aA id).trans B;rw[<-c,bP _ _ aC];have e:=aN (w1.alloc (.cells #[ae,ae,iI 0,iI 0] 129)) (.cells #[pT w0.heap.size,pT w1.heap.size] 57);exact my;rw[<-c,bP _ _ aM,bP _ _ aC];exact vZ;rcases b with b|b;have:=z k b;have:=F k b;exact rP;exact rP
 rw[c];clear c r B y l p z;refine(MZ g 0 bX 0 _ aE A).mono ?_;rintro e _ ⟨rfl,_,_,m⟩;rw[Za6]at m;obtain⟨c0,c1⟩:=cz m.zv 0 1;have s:=q8 m;clear m A;go_wp2_with fail;clear c0 c1;refine(MZ g 0 bY 0 _ aE s).mono ?_;rintro e _ ⟨rfl,_,_,h⟩;rw[Za7]at h;obtain⟨c0,c1⟩:=cz h.zv 0 1;have D:=q8 h;clear h s;go_wp2_with fail;clear c0 c1;refine(MZ g 0 bF 1 _ aE D).mono ?_;rintro e w5 ⟨rfl,u,I,j⟩;rw[Za8]at j;obtain⟨c0,c1⟩:=cz j.zv 0 1;have a:=q8 j;clear j D;go_wp2_with fail;clear c0 c1;refine(g.tidy _ w5 u a.p (H.ext a.ext id) (t.ext a.ext id)).mono ?_;rintro e S ⟨X,rfl,M,i⟩;have J:X=⟨#[40,61,32,40,102,32,120,41,32,121,41]⟩:=O8 (M.trans (by rw[VD];rfl));subst J;rw[VD];have N:=i.K a.zv;have Q:=i.K a.res;obtain⟨c0,c1⟩:=cz N 0 1;obtain⟨W,V,_,_⟩:=dT Q 0 1 0 1;have L:=q8 i;clear M i N Q;go_wp2_with fail;refine a6 (v:=.tuple #[.agg #[pT w0.heap.size,pT w1.heap.size],ah]) (by simp[results,results32,go_sem,W,V]) rfl ?_;have U:=a.o.ext.size;have o:q9 (λk=>k=w.heap.size) w5 ((S.setCell (aD w.heap.size 0) (pT w0.heap.size)).setCell (aD w.heap.size 1) (pT w1.heap.size)):=((L.mono (T:=λk=>k=w.heap.size) (λ_ _ f=>f.elim)).sc w.heap.size 0 _).sc w.heap.size 1 _;refine⟨_,_,u,I,rfl,a.ext.trans' o (λ_ _ e=>aA),g.kp _ _ _ _ _ _ a.p o (λk b e=>by have:=(a.f k (.inl b)).1;omega),g.kr _ _ _ _ _ _ a.r o (λk b e=>by have:=(a.f k (.inr b)).1;omega),a.d,λk b=>lD (a.f k b).1⟩
end
def M0(W:ao)(e:Option Addr)(n:Nat):Prop :=
 ∀ i,i<n->∃ (b c:Nat) (k d:Int) (s:ax) (a:Int),e=some (aD b c)/\b<W.heap.size/\s.size<=maxLen /\ -9223372036854775808<=d/\d<=9223372036854775807 /\
  W.cell? ⟨b,c+i*4,none⟩=some (iI k)/\W.cell? ⟨b,c+i*4+1,none⟩=some (iI d)/\W.cell? ⟨b,c+i*4+2,none⟩=some (.string s)/\W.cell? ⟨b,c+i*4+3,none⟩=some (iI a)
end
section
open Go.Proofs.Tryz
structure nW(w:World):Prop where
 hd:ju w
 uJ:kU w
 pat:y9 w
theorem nW.ext{w w':ao}(h:nW w)(x:eX w w'):nW w':=⟨h.hd.ext x id,h.uJ.ext x id,h.pat.ext x id⟩
structure zI(p9:Int)(df:Nat)(G:Nat->Nat->World->(Nat->Prop)->Prop)(B:Nat->Nat->World->(Nat->Prop)->Prop):Prop where
 ext:∀ ps rs,lN (G ps rs)
 lt:∀ ps rs,qW (G ps rs)
 Ww:∀ m bb,lN (B m bb)
 ltB:∀ m bb,qW (B m bb)
 begin:∀ w,nW w->cP 32 #[] w fun e w'=>∃ ps rs F,e=.returned (.tuple #[.agg #[pT ps,pT rs],.bool true])/\eX w w'/\G ps rs w' F/\∀ k,F k->w.heap.size<=k
 book:∀ (bb:Nat) (w:World),w.heap[bb]?=some (.cells #[ae,ae,iI 0] 64)->B 0 bb w (fun k=>k=bb)
 looks:∀ (m bb:Nat) (w:World) (F:Nat->Prop),m<=df->B m bb w F->cP 35 #[pT bb] w fun e w'=>e=.returned (.bool true)/\eX w w'
 step:∀ (m:Nat) (w:World) (ps rs bb:Nat) (F FB:Nat->Prop) (k on:Int) (s:ByteArray) (a:Int),m<df->G ps rs w F->B m bb w FB->(∀ k,F k->¬FB k)->nW w->k<=p9->s.size<=maxLen ->
  cP 34 #[.agg #[pT ps,pT rs],.agg #[iI k,iI on,.string s,iI a],pT bb] w (PP w F FB (G ps rs) (B (m+1) bb))
structure uR(W:World)(G:Nat->Nat->World->(Nat->Prop)->Prop)(B:World->(Nat->Prop)->Prop)(lb p1 r1 p2 r2:Nat)(F1 F2 FB:Nat->Prop)(w:World):Prop where
 ext:eX W w
 uS:w.heap[lb]?=some (.cells #[pT p1,pT r1,pT p2,pT r2] 57)
 g1:G p1 r1 w F1
 g2:G p2 r2 w F2
 b:B w FB
 d12:∀ k,F1 k->¬F2 k
 d1:∀ k,F1 k->¬FB k
 d2:∀ k,F2 k->¬FB k
 f:∀ k,F1 k\/F2 k\/FB k->W.heap.size<=k/\¬k=lb
def zJ(W:ao)(G:Nat->Nat->ao->aj->Prop)(B:ao->aj->Prop)(lb p1 r1 p2 r2:Nat)(w:ao):Prop:=∃ F1 F2 FB,uR W G B lb p1 r1 p2 r2 F1 F2 FB w
section
variable{p9:Int}{df m m':Nat}{G:Nat->Nat->ao->aj->Prop}{B:Nat->Nat->ao->aj->Prop}{W w w':ao}{lb bb p1 r1 p2 r2:Nat}{F1 F2 FB:aj}
theorem uR.quiet(a:zI p9 df G B)(h:uR W G (B m bb) lb p1 r1 p2 r2 F1 F2 FB w)(x:eX w w'):uR W G (B m bb) lb p1 r1 p2 r2 F1 F2 FB w':=⟨h.ext.trans x,x.K h.uS,a.ext _ _ _ _ _ _ h.g1 x (λ_ _ f=>f),a.ext _ _ _ _ _ _ h.g2 x (λ_ _ f=>f),a.Ww _ _ _ _ _ _ h.b x (λ_ _ f=>f),h.d12,h.d1,h.d2,h.f⟩
theorem uR.one(j:zI p9 df G B)(h:uR W G (B m bb) lb p1 r1 p2 r2 F1 F2 FB w)(p:GM w F1 FB (G p1 r1) (B m' bb) w'):zJ W G (B m' bb) lb p1 r1 p2 r2 w':=by
 obtain⟨f,b,c,o,n,q,g⟩:=p;have s:=h.ext.size;have r:=j9 h.uS;have l:∀k,b k\/c k->¬F2 k:=by intro k a d;rcases g k a with(e|e)|e;exact h.d12 k e d;exact h.d2 k d e;have:=j.lt _ _ _ _ h.g2 k d;omega
 refine⟨b,F2,c,h.ext.trans' f (λi _ e=>by have:=(h.f i (e.imp id .inr)).1;omega),(f.block _ r (λe=>(h.f lb (e.imp id .inr)).2 rfl)).trans h.uS,o,j.ext _ _ _ _ _ _ h.g2 f (λk a e=>e.elim (λe=>h.d12 k e a) (h.d2 k a)),n,λk a=>l k (.inl a),q,λk a e=>l k (.inr e) a,λk a=>?_⟩;have hb:(b k\/c k)\/F2 k:=by rcases a with e|e|e;exact qw;exact .inr e;exact .inl (.inr e)
 rcases hb with hb|hb;rcases g k hb with e|e;exact h.f k (e.imp id .inr);exact rP;exact h.f k (.inr (.inl hb))
theorem uR.swap(h:uR W G (B m bb) lb p1 r1 p2 r2 F1 F2 FB w)(j:zI p9 df G B)(p:GM w F2 FB (G p2 r2) (B m' bb) w'):zJ W G (B m' bb) lb p1 r1 p2 r2 w':=by
 obtain⟨f,b,c,o,n,q,g⟩:=p;have s:=h.ext.size;have r:=j9 h.uS;have l:∀k,b k\/c k->¬F1 k:=by intro k a d;rcases g k a with(e|e)|e;exact h.d12 k d e;exact h.d1 k d e;have:=j.lt _ _ _ _ h.g1 k d;omega
 refine⟨F1,b,c,h.ext.trans' f (λi _ e=>by have:=(h.f i (.inr e)).1;omega),(f.block _ r (λe=>(h.f lb (.inr e)).2 rfl)).trans h.uS,j.ext _ _ _ _ _ _ h.g1 f (λk a e=>e.elim (h.d12 k a) (h.d1 k a)),o,n,λk a e=>l k (.inl e) a,λk a e=>l k (.inr e) a,q,λk a=>?_⟩;rcases a with e|a;exact h.f k (.inl e);rcases g k a with e|e;exact h.f k (.inr e);exact rP
theorem qL6(i:zI p9 df G B){l p a:ao}(h:eX W l)(v:G p1 r1 l F1)(A:∀k,F1 k->W.heap.size<=k)(d:eX l p)(c:eX p a)(u:G p2 r2 a F2)(x:∀k,F2 k->p.heap.size<=k):zJ W G (B 0 (a.heap.size+1+1)) (a.heap.size+1) p1 r1 p2 r2 (((a.alloc (.cells #[pT p2,pT r2] 57)).alloc (.cells #[pT p1,pT r1,pT p2,pT r2] 57)).alloc (.cells #[ae,ae,iI 0] 64)):=by obtain⟨r,s⟩:∃o:Obj,.cells #[pT p2,pT r2] 57=o:=⟨_,rfl⟩;obtain⟨q,j⟩:∃o:Obj,.cells #[pT p1,pT r1,pT p2,pT r2] 57=o:=⟨_,rfl⟩;obtain⟨w,g⟩:∃o:Obj,.cells #[ae,ae,iI 0] 64=o:=⟨_,rfl⟩;rw[s,j,g];have b:eX a (((a.alloc r).alloc q).alloc w):=(((rr a).alloc _).alloc _).alloc _;have s1:=h.size;have s2:=d.size;have s3:=c.size;have t:=i.lt _ _ _ _ v;have y:=i.lt _ _ _ _ u;refine⟨F1,F2,λk=>k=a.heap.size+1+1,((h.trans d).trans c).trans b,?_,i.ext _ _ _ _ _ _ v ((d.trans c).trans b) (λ_ _ f=>f),i.ext _ _ _ _ _ _ u b (λ_ _ f=>f),i.book _ _ ?_,λk n m=>?_,λk n e=>?_,λk m e=>?_,λk z=>?_⟩;rw[j,bP _ _ aC];have e:=aN (a.alloc r) q;exact my;rw[g];have e:=aN ((a.alloc r).alloc q) w;exact my;have:=t k n;have:=x k m;omega;have:=t k n;omega;have:=y k m;omega;rcases z with e|e|e;have:=t k e;have:=A k e;exact rP;have:=y k e;have:=x k e;exact rP;exact rP
theorem jW1(hG:zI p9 df G B)(hm:7<=p9)(W:ao)(sa:Option Addr)(n cap:Nat)(hn:n<=maxLen)(Zkb:n+2<=df)(hS:M0 W sa n)(hL:nW W):cP 12 #[.slice sa n cap,iI p9] W λe w'=>e=.returned (ah)/\eX W w':=by
 obtain⟨HL,HS,h⟩:=aQ hL hS hG;clear hL hS hG;delta cP;go_in;go_wp2_with fail;refine(h.begin W HL).mono ?_;rintro e w1 ⟨p1,r1,_,rfl,Y,O,P⟩;obtain⟨D,Wx,M⟩:=aQ Y O P;clear Y O P;go_wp2_with fail;obtain⟨I,v⟩:∃I,w1.alloc (.cells #[pT p1,pT r1] 57)=I:=⟨_,rfl⟩;have E:Hid (eX w1 I):=by rw[<-v];exact yA
 have J:Hid (I.heap[w1.heap.size]?=ad #[pT p1,pT r1] 57):=by rw[<-v];exact vZ
 rw[v];clear v;refine(h.begin I (HL.ext (D.trans E))).mono ?_;rintro e w2 ⟨p2,r2,_,rfl,A,Z,CN⟩;have k1:=A.K J;obtain⟨c10,c11⟩:=cz k1 0 1;have C:=j9 k1;obtain⟨X,L,zK⟩:=aQ A Z CN;clear A Z CN k1;go_wp2_with fail;have u:=qL6 h D Wx M E X L zK;have d:=q8 u;clear u c10 c11 C D Wx M E X L zK J;obtain⟨lb,F⟩:∃lb,w2.heap.size+1=lb:=⟨_,rfl⟩;rw[F]at d;simp only[F];clear F;go_loopw [11](λi wr=>∃k m:Nat,k<=n/\m<=k/\i=iI k/\zJ W G (B m (lb+1)) lb p1 r1 p2 r2 wr)(λi _=>n-(intOf i).toNat);case atStart=>exact⟨0,0,aY _,aY _,rfl,d⟩
 case round=>clear d;obtain⟨k,m,_,_,rfl,F1,F2,FB,u⟩:=hrel;obtain⟨d,t⟩:=aH u (HL.ext u.ext);clear u;have hmx:n<=9223372036854775807:=by{unfold maxLen at hn;omega};by_cases C:k<n;{obtain⟨b,x,kd,H,s,a,rfl,hb,hs,Q,N,c0,c1,c2,c3⟩:=HS k C;have K:=d.o.ext;rw[<-K.cell (p:=⟨b,x+k*4,none⟩) hb id]at c0;rw[<-K.cell (p:=⟨b,x+k*4+1,none⟩) hb id]at c1;rw[<-K.cell (p:=⟨b,x+k*4+2,none⟩) hb id]at c2;rw[<-K.cell (p:=⟨b,x+k*4+3,none⟩) hb id]at c3;have U:Hid (-9223372036854775808<=H/\H<=9223372036854775807):=⟨Q,N⟩;have S:=q8 hs;clear K Q N hs;by_cases Zkc:p9<kd;{go_wp2_with fail;exact⟨⟨k+1,m,aA,aA,aS,F1,F2,FB,d⟩,bf⟩};have l0:=z7 d.uS 0;obtain⟨l1,l2,l3⟩:=c9 d.uS 1 2 3;have HK:Hid (kd<=p9):=by{show _<=_;omega};obtain⟨j,y,r⟩:=aQ (d.quiet h ((eR wr).drew)) (t.ext ((eR wr).drew)) (λw=>jG7 H w U.1 U.2);rcases qV2 H with hp|hp;{rw[hp]at r;clear hp;go_wp2_with fail;go_region_law (go_simp;go_wp2_with(first|(go_at_call 33;refine(r _).mono ?_;rintro e w' ⟨rfl,rfl⟩)|(go_at_call 34;refine(h.step m _ p1 r1 (lb+1) F1 FB kd H s a aA j.g1 j.b d.d1 y HK S).mono ?_;rintro e w' ⟨rfl,c⟩)));all_goals obtain⟨o,l,f,z⟩:=j.one h c;have R:=q8 z;clear c z l0 l1 l2 l3 c0 c1 c2 c3 d j y r;go_wp2_with(go_at_call 35;refine(h.looks (m+1) (lb+1) _ f aA R.b).mono ?_;rintro e T ⟨rfl,g⟩);exact⟨⟨k+1,m+1,aA,aA,aS,o,l,f,R.quiet h g⟩,bf⟩};rw[hp]at r;clear hp;go_wp2_with fail;go_region_law (go_simp;go_wp2_with(first|(go_at_call 33;refine(r _).mono ?_;rintro e w' ⟨rfl,rfl⟩)|(go_at_call 34;refine(h.step m _ p2 r2 (lb+1) F2 FB kd H s a aA j.g2 j.b d.d2 y HK S).mono ?_;rintro e w' ⟨rfl,c⟩)));all_goals obtain⟨o,l,f,z⟩:=j.swap h c;have R:=q8 z;clear c z l0 l1 l2 l3 c0 c1 c2 c3 d j y r;go_wp2_with(go_at_call 35;refine(h.looks (m+1) (lb+1) _ f aA R.b).mono ?_;rintro e T ⟨rfl,g⟩);exact⟨⟨k+1,m+1,aA,aA,aS,o,l,f,R.quiet h g⟩,bf⟩};go_wp2_with fail;have V:Hid (zJ W G (B m (lb+1)) lb p1 r1 p2 r2 wr):=⟨F1,F2,FB,d⟩;clear d t;go_loopw [6,14](λva i wr=>∃q:Nat,q<=2/\va=ah/\i=iI q/\zJ W G (B (m+q) (lb+1)) lb p1 r1 p2 r2 wr)(λ_ i _=>2-(intOf i).toNat);(case atStart=>exact⟨0,aY _,rfl,rfl,V⟩);case round=>clear V;obtain⟨q,_,rfl,rfl,F1,F2,FB,u⟩:=hrel;obtain⟨l0,l1,l2,l3⟩:=cZ u.uS 0 1 2 3;obtain⟨d,t⟩:=aH u (HL.ext u.ext);clear u;obtain rfl|rfl|rfl:q=0\/q=1\/q=2:=aA;{go_wp2_with(go_at_call 34;refine(h.step (m+0) _ p1 r1 (lb+1) F1 FB 7 0 _ 0 aA d.g1 d.b d.d1 t hm aE).mono ?_;rintro e w' ⟨rfl,c⟩);obtain⟨o,l,f,z⟩:=d.one h c;exact⟨⟨1,aA,rfl,rfl,o,l,f,z⟩,kz⟩};{go_wp2_with(go_at_call 34;refine(h.step (m+1) _ p2 r2 (lb+1) F2 FB 7 0 _ 0 aA d.g2 d.b d.d2 t hm aE).mono ?_;rintro e w' ⟨rfl,c⟩);obtain⟨o,l,f,z⟩:=d.swap h c;exact⟨⟨2,aA,rfl,rfl,o,l,f,z⟩,kz⟩};clear l0 l1 l2 l3;go_wp2_with(go_at_call 35;refine(h.looks (m+2) (lb+1) _ FB aA d.b).mono ?_;rintro e T ⟨rfl,g⟩);go_ret;exact⟨rfl,d.ext.trans g⟩
end
end
section
open Go.Proofs.Tryz
open Go.ChangeShapes Go.Deep Go.Joins
variable{W:ao}
theorem Zf7 : Tryz.prog.globalNamed "internal/strconv.uint64pow10" = some 2 := by kernel_rfl
theorem Zf8:(prog.globals[2]?).map (·.type)=some 362:=aG
theorem Zf9:prog.cellsOf 195=1:=aG
theorem Ze5:prog.cellsOf 362=20:=aG
theorem cOp:prog.cellsOf 66=4:=aG
theorem jS4(h:laidMet prog Rows.readsRow.laid W):ju W/\kU W:=by obtain⟨_,⟨_,_,_,_,_,_,_,_,_,_,⟨_,_,_,_,_,_,_,_,_,_,⟨_,_,b,m,k,_,f,i,c,aH,⟨_,_,cs3,_,_,_,d,j,g,aQ,_,_⟩,_⟩,_⟩,_⟩,_,_⟩:=h;obtain rfl:=dI (jG8.symm.trans d);obtain rfl:=dI (Za9.symm.trans j);obtain rfl:=dI (Zf7.symm.trans f);obtain rfl:=dI (Zf8.symm.trans i);constructor;obtain⟨t,fr,hb⟩:=qq9 jG8 g;have e:=jG9 aQ;have l:cs3=wM:=Array.ext' e;subst l;exact⟨t,fr,hb⟩;show W.var? _ _=_;rw[c];have a:DataW.trod _ prog W _ _ _ m 362 b.toList=some (Lib.tabData .u64 Lib.pow10Tab,k):=aH;rw[<-Lib.cells_of_tab underlying362 underlying195 Zf9 Ze5 a]
theorem Ze6{H:Type}{enc:TypeId×au->H}{m i:Nat}{a:Addr}{cs:ak}{y:DataW H×List MemPlace}{f:Nat->Bool}{j:Bool}(r:W.cells? 0 (a.add (i*4)) 4=some cs)(h:DataW.trod enc prog W 0 f j m 66 cs=some y)(n:a.spot=none):∃(k g:Int)(s:ax)(c:Int),s.size<=maxLen/\ -9223372036854775808<=g/\g<=9223372036854775807/\W.cell? ⟨a.block,a.off+i*4,none⟩=some (iI k)/\W.cell? ⟨a.block,a.off+i*4+1,none⟩=some (iI g)/\W.cell? ⟨a.block,a.off+i*4+2,none⟩=some (ai s)/\W.cell? ⟨a.block,a.off+i*4+3,none⟩=some (iI c):=by
 obtain⟨k,g,s,c,rfl,q,p,o⟩:=Ze3 underlying66 aG cOp rfl rfl rfl rfl qE underlying9 h;obtain⟨_,_,d⟩:=World.cells?_some r;obtain⟨b,l,_⟩:=a;simp only at n;subst n;have e:(Addr.mk b l none).add (i*4)=⟨b,l+i*4,none⟩:=by unfold Addr.add;split;simp_all;rfl
 rw[e]at d;exact⟨k,g,s,c,q,p,o,d 0 aE,d 1 aE,d 2 aE,d 3 aE⟩
end
section
open Go.Proofs.Tryz
open Go.ChangeShapes Go.WideShapes Go.ChangeAt Go.WideMaps Go.WideElems Go.Deep
variable{W:ao}
theorem jd6{H:Type}{enc:TypeId×au->H}{v:au}{d:DataW H}{p:List MemPlace}(y:∃a l c,v=.slice a l c)(h:DataW.Trod enc prog W 0 (λ_=>true) true 22 v d p):∃(f:Option Addr)(n cap:Nat),v=.slice f n cap/\n<=maxLen/\M0 W f n:=by obtain⟨f,n,cap,rfl⟩:=y;obtain⟨x,j⟩:=jp1 underlying22 cOp h;refine⟨f,n,cap,rfl,x,λi w=>?_⟩;obtain⟨a,_,_,_,rfl,e,g,z,q⟩:=j i w;obtain⟨k,r,s,c,t,o,u,c0,c1,c2,c3⟩:=Ze6 z q e;obtain⟨b,m,_⟩:=a;simp only at e;subst e;exact⟨b,m,k,r,s,c,rfl,g,t,o,u,c0,c1,c2,c3⟩
theorem jr5(m:W.ShapedOpen prog)(h:laidMet prog Rows.decidesRow.laid W):nW W:=by obtain⟨k,a⟩:=jS4 h;obtain⟨_,⟨_,_,_,_,_,_,_,_,_,_,⟨_,_,_,_,_,_,_,_,_,_,⟨_,_,_,_,_,_,_,_,_,_,⟨_,_,_,_,_,_,_,_,_,_,⟨_,_,c,n,l,_,f,i,d,bH,_,_⟩,_⟩,_⟩,_⟩,_⟩,_,_⟩:=h;obtain rfl:=dI (Zc3.symm.trans f);obtain rfl:=dI (Zf0.symm.trans i);refine⟨k,a,?_⟩;obtain⟨_,_,hb⟩:=qq9 Zc3 d;have b:DataW.trod _ prog W _ _ _ n 336 c.toList=some (Lib.tabData .u64 jv9,l):=bH;have j:=Lib.cells_of_tab underlying336 underlying195 Zf1 Zf2 b;obtain⟨_,g,_⟩:=m.1 1 _ _ (qA aG) qO7;rw[hb]at g;simp only[yG,Obj.cells.injEq]at g;obtain⟨rfl,rfl,rfl⟩:=g;have e:c=(jv9.map (λz=>iV z)).toArray:=Array.ext' (by rw[j]);subst e;exact hb
def Zb7(f:Nat):Prop:=∀ (W:ao) (a:Option Addr) (n cap:Nat),n<=maxLen->M0 W a n->nW W ->
 Calls prog f #[.slice a n cap] W fun e w'=>e=.returned (.bool true)/\eX W w'
end
section
open Go.Proofs.Tryz
variable{n e size m g cap:Nat}{w:ao}{v:au}{xs:ak}
theorem Wy(g:Nat):∀(vs:ak)(o:Nat)(w:ao)(b:Array au)(e:TypeId),w.heap[g]?=some (.cells b e (0,0))->∃a:Array au,(w.setCells g o vs).heap[g]?=some (.cells a e (0,0))/\a.size=b.size/\∀i,i<o->a[i]?=b[i]? |[],o,w,b,e,h=>⟨b,h,rfl,λ_ _=>rfl⟩|v::vs,o,w,b,e,h=>by obtain⟨a,c,h2,d⟩:=Wy g vs (o+1) (w.setCell (aD g o) v) _ e (X6 h o v);refine⟨a,c,E',λi _=>?_⟩;rw[d i aA];simp[Array.getElem?_setIfInBounds];omega
theorem Ha(w:ao)(b o:Nat):w.setCells b o []=w:=rfl
theorem Wz(g:Nat):∀(vs:ak)(o:Nat)(w:ao),q9 (λk=>k=g) w (w.setCells g o vs)|[],_,w=>q9.refl _ w|v::vs,o,w=>((q9.refl (λk=>k=g) w).sc g o v).trans' (Wz g vs (o+1) _) (λ_ _ e=>e)
theorem qM8{z:Array au}(b:0<z.size):(Builtin.zeroCells z n).toList.length=n*z.size/\∀u∈(Builtin.zeroCells z n).toList,u∈z.toList:=by unfold Builtin.zeroCells;refine⟨aC,λu a=>?_⟩;simp at a;obtain⟨i,_,rfl⟩:=a;have h:=Nat.mod_lt i b;rw[getElem!_pos z _ h];simp
theorem Hb{P:Program}(w:ao)(t e l:TypeId)(z:au)(g:P.underlying t=some (.slice e))(q:∀w,(zeroValue e).run P w=.ok z w)(i:0<z.cells.size)(h:∀u∈z.cells.toList,u.oneCell'=true)(b o n c:Nat)(s:0<n)(r:∀j,j<n*z.cells.size->(w.cell? ⟨b,o+j,none⟩).isSome=true)(k:∀j,j<n*z.cells.size->w.frozen? ⟨b,o+j,none⟩=false):(Builtin.clear_ #[t] l #[.slice (some (aD b o)) n c]).run P w=.ok (.tuple #[]) (w.setCells b o (Builtin.zeroCells z.cells n).toList):=by obtain⟨f,p⟩:=qM8 (n:=n) i;have a:=run_storeCells_cells (P:=P) b o (Builtin.zeroCells z.cells n).toList 0 w (by rw[f];simpa using r) (by rw[f];simpa using k) (λv d=>h v (p v d));simp only[Nat.add_zero]at a;obtain⟨m,rfl⟩:∃m,n=m+1:=⟨n-1,aA⟩;simp[Builtin.clear_,run_underlying g,q,a]
def zL(w:ao)(e size:Nat)(v:au)(m:Nat)(xs:ak)(b:Ending)(w':ao):Prop :=
 ∃ a,b=.returned a/\w'.ownsRow 0 e size a m (xs.take (m*size))/\q9 (fun k=>v.ownBlock=some k) w w'/\a.ownBlock=v.ownBlock
theorem uT(h:w.ownsRow 0 e size v n xs):zL w e size v n xs (.returned v) w:=by refine⟨v,rfl,?_,q9.refl _ _,rfl⟩;rw[cj (by rw[h.1];exact Bv)];exact h
theorem zW7{b:ao}{o:Nat}{vs:ak}(h:w.ownsRow 0 e size (az g n cap) n xs)(k:m<=n)(u:m*size<=o)(j:eX w b):zL w e size (az g n cap) m xs (.returned (az g m cap)) (b.setCells g o vs):=by rcases h.2 with⟨p,_⟩|⟨_,_,c,s,_,d,_,t,_,q⟩;cases p;cases s;obtain⟨a,l,_,r⟩:=Wy g vs o b c e ((j.block g (j9 d) id).trans d);refine⟨_,rfl,⟨?_,Or.inr ⟨g,cap,a,rfl,aY _,l,aA,t,aA,?_⟩⟩,?_,rfl⟩;rw[dd,h.1];have:=oC size k;omega;rw[<-q,qC,ig (oC size k)];apply Fq;intro i;by_cases f:i<m*size;rw[BG f,BG f,yK,yK];exact r i aA;rw[iQ aM,iQ aM];exact(j.M).trans' (Wz g vs o b) (λ_ _ e=>tC)
theorem sK(h:w.ownsRow 0 e size (az g n cap) n xs):∀j,j<n*size->(w.cell? (aD g j)).isSome=true/\w.frozen? (aD g j)=false:=ZfE
theorem Hc:(prog.info? 145).map (λi=>(i.zero,i.size,i.bytes))=some (some (.agg #[ai ay,iI 0,iI 0,iI 0,iI 0,iI 0]),6,56):=aG
theorem Hd:(prog.info? 153).map (λi=>(i.zero,i.size,i.bytes))=some (some (.agg #[ai ay,iI 0,iI 0,iI 0]),4,40):=aG
theorem Nu:(prog.info? 112).map (λi=>(i.zero,i.size,i.bytes))=some (some (.agg #[iI 0,ai ay,iI 0,ae]),4,56):=aG
theorem jW7(h:w.ownsRow 0 142 2 v n xs)(hm:m<=n)(C:n<=100000000):cP 64 #[v,iI m,iI n] w (zL w 142 2 v m xs):=by have H:=q8 h;by_cases c:m=n;{subst c;obtain⟨a,cap,hv,B⟩:∃a cap,v=.slice a m cap/\m<=cap/\cap<=maxLen:=SE;subst hv;obtain⟨_,i⟩:=B;unfold maxLen at i;clear h;cases a with|none=>(have f:m=0:=RE;subst f;have b:cap=0:=RD;subst b;delta cP;go_in;go_wp2;go_ret;exact uT H.o)|some a=>delta cP;go_in;go_wp2;go_ret;exact uT H.o};rcases h.2 with⟨e,e0⟩|⟨g,cap,cur,hv,_,p,h1,h2,u,r⟩;omega;subst hv;unfold maxLen at h2;have z:=j9 p;obtain⟨s,x,_,d,_⟩:=bJ Vy;have q:((m:Int)==(n:Int))=false:=aM;obtain⟨A,_⟩:∃A,(if cap=n then some ((aD g 0):Addr)else some ⟨g,n*2,none⟩)=some A:=RA;have y:∀k,(Builtin.clear_ #[76] k #[.slice (some ⟨g,m*2,none⟩) (n-m) (cap-m)]).run prog w.drew=.ok (.tuple #[]) (w.drew.setCells g (m*2) (Builtin.zeroCells (.agg #[ai ay,iI 0]:au).cells (n-m)).toList):=λk=>Hb w.drew _ _ k (.agg #[ai ay,iI 0]) underlying76 (λ_=>aG) aE aE g (m*2) _ _ aA (λj l=>(sK H (m*2+j) (by have:j<(n-m)*2:=l;omega)).1) (λj l=>(sK H (m*2+j) (by have:j<(n-m)*2:=l;omega)).2);have t:m<=cap:=aA;clear h p u r;delta cP;go_in;go_wp2;go_region_law (refine step_append_room rfl (.tmp 22) (.tmp 25) 76 rfl 142 s 2 underlying76 x d g 0 m cap ou A 0 (cap-n) [] ou aC aC aC aA aC ?_;rw[Ha]);exact RM
theorem Nv(h:w.ownsRow 0 145 6 v n xs)(hm:m<=n)(C:n<=100000000):cP 100 #[v,iI m,iI n] w (zL w 145 6 v m xs):=by have H:=q8 h;by_cases c:m=n;{subst c;obtain⟨a,cap,hv,B⟩:∃a cap,v=.slice a m cap/\m<=cap/\cap<=maxLen:=SE;subst hv;obtain⟨_,i⟩:=B;unfold maxLen at i;clear h;cases a with|none=>(have f:m=0:=RE;subst f;have b:cap=0:=RD;subst b;delta cP;go_in;go_wp2;go_ret;exact uT H.o)|some a=>delta cP;go_in;go_wp2;go_ret;exact uT H.o};rcases h.2 with⟨e,e0⟩|⟨g,cap,cur,hv,_,p,h1,h2,u,r⟩;omega;subst hv;unfold maxLen at h2;have z:=j9 p;obtain⟨s,x,_,d,_⟩:=bJ Hc;have q:((m:Int)==(n:Int))=false:=aM;obtain⟨A,_⟩:∃A,(if cap=n then some ((aD g 0):Addr)else some ⟨g,n*6,none⟩)=some A:=RA;have y:∀k,(Builtin.clear_ #[79] k #[.slice (some ⟨g,m*6,none⟩) (n-m) (cap-m)]).run prog w.drew=.ok (.tuple #[]) (w.drew.setCells g (m*6) (Builtin.zeroCells (.agg #[ai ay,iI 0,iI 0,iI 0,iI 0,iI 0]:au).cells (n-m)).toList):=λk=>Hb w.drew _ _ k (.agg #[ai ay,iI 0,iI 0,iI 0,iI 0,iI 0]) yL (λ_=>aG) aE aE g (m*6) _ _ aA (λj l=>(sK H (m*6+j) (by have:j<(n-m)*6:=l;omega)).1) (λj l=>(sK H (m*6+j) (by have:j<(n-m)*6:=l;omega)).2);have t:m<=cap:=aA;clear h p u r;delta cP;go_in;go_wp2;go_region_law (refine step_append_room rfl (.tmp 22) (.tmp 25) 79 rfl 145 s 6 yL x d g 0 m cap ou A 0 (cap-n) [] ou aC aC aC aA aC ?_;rw[Ha]);exact RM
theorem Nw(h:w.ownsRow 0 153 4 v n xs)(hm:m<=n)(B:n<=100000000):cP 101 #[v,iI m,iI n] w (zL w 153 4 v m xs):=by have H:=q8 h;by_cases c:m=n;{subst c;obtain⟨a,cap,hv,z⟩:∃a cap,v=.slice a m cap/\m<=cap/\cap<=maxLen:=SE;subst hv;obtain⟨_,i⟩:=z;unfold maxLen at i;clear h;cases a with|none=>(have f:m=0:=RE;subst f;have b:cap=0:=RD;subst b;delta cP;go_in;go_wp2;go_ret;exact uT H.o)|some a=>delta cP;go_in;go_wp2;go_ret;exact uT H.o};rcases h.2 with⟨e,e0⟩|⟨g,cap,cur,hv,_,l,h1,h2,t,q⟩;omega;subst hv;unfold maxLen at h2;have y:=j9 l;obtain⟨r,u,_,d,_⟩:=bJ Hd;have p:((m:Int)==(n:Int))=false:=aM;obtain⟨A,_⟩:∃A,(if cap=n then some ((aD g 0):Addr)else some ⟨g,n*4,none⟩)=some A:=RA;have x:∀k,(Builtin.clear_ #[83] k #[.slice (some ⟨g,m*4,none⟩) (n-m) (cap-m)]).run prog w.drew=.ok (.tuple #[]) (w.drew.setCells g (m*4) (Builtin.zeroCells (.agg #[ai ay,iI 0,iI 0,iI 0]:au).cells (n-m)).toList):=λk=>Hb w.drew _ _ k (.agg #[ai ay,iI 0,iI 0,iI 0]) yM (λ_=>aG) aE aE g (m*4) _ _ aA (λj hj=>(sK H (m*4+j) Se).1) (λj hj=>(sK H (m*4+j) Se).2);have s:m<=cap:=aA;clear h l t q;delta cP;go_in;go_wp2;go_region_law (refine step_append_room rfl (.tmp 22) (.tmp 25) 83 rfl 153 r 4 yM u d g 0 m cap ou A 0 (cap-n) [] ou aC aC aC aA aC ?_;rw[Ha]);exact RM
theorem jW8(h:w.ownsRow 0 112 4 v n xs)(hm:m<=n)(B:n<=100000000):cP 45 #[v,iI m,iI n] w (zL w 112 4 v m xs):=by have H:=q8 h;by_cases c:m=n;{subst c;obtain⟨a,cap,hv,z⟩:∃a cap,v=.slice a m cap/\m<=cap/\cap<=maxLen:=SE;subst hv;obtain⟨_,i⟩:=z;unfold maxLen at i;clear h;cases a with|none=>(have f:m=0:=RE;subst f;have b:cap=0:=RD;subst b;delta cP;go_in;go_wp2;go_ret;exact uT H.o)|some a=>delta cP;go_in;go_wp2;go_ret;exact uT H.o};rcases h.2 with⟨e,e0⟩|⟨g,cap,cur,hv,_,l,h1,h2,t,q⟩;omega;subst hv;unfold maxLen at h2;have y:=j9 l;obtain⟨r,u,_,d,_⟩:=bJ Nu;have p:((m:Int)==(n:Int))=false:=aM;obtain⟨A,_⟩:∃A,(if cap=n then some ((aD g 0):Addr)else some ⟨g,n*4,none⟩)=some A:=RA;have x:∀k,(Builtin.clear_ #[89] k #[.slice (some ⟨g,m*4,none⟩) (n-m) (cap-m)]).run prog w.drew=.ok (.tuple #[]) (w.drew.setCells g (m*4) (Builtin.zeroCells (.agg #[iI 0,ai ay,iI 0,ae]:au).cells (n-m)).toList):=λk=>Hb w.drew _ _ k (.agg #[iI 0,ai ay,iI 0,ae]) underlying89 (λ_=>aG) aE aE g (m*4) _ _ aA (λj hj=>(sK H (m*4+j) Se).1) (λj hj=>(sK H (m*4+j) Se).2);have s:m<=cap:=aA;clear h l t q;delta cP;go_in;go_wp2;go_region_law (refine step_append_room rfl (.tmp 22) (.tmp 25) 89 rfl 112 r 4 underlying89 u d g 0 m cap ou A 0 (cap-n) [] ou aC aC aC aA aC ?_;rw[Ha]);exact RM
end
section
open Go.Proofs.Tryz
open Go.Maps
variable{D:DataW Unit}{n:Nat}
structure gE{α:Type}(kl:α->Lit)(Ok:α->Prop)(S:α->Prop)(K:List α)(D:DataW Unit)(c:Nat):Prop where
 yes:∀ (i:Nat) (x:α),K[i]?=some x->S x->(∀ z,D.atKey (kl x) z=.lit (.int .i64 i))/\Maps.has D (kl x)=true
 no:∀ x:α,Ok x->¬(x∈K/\S x)->Maps.has D (kl x)=false
 size:Maps.size D=c
section
variable{α:Type}{kl:α->Lit}{Ok:α->Prop}
theorem WA:gE kl Ok (λ_=>True) [] (.map []) 0:=⟨λ_ x h=>absurd h aC,λx _ _=>rfl,rfl⟩
theorem WB{K:List α}{x:α}(h:gE kl Ok (λ_=>True) K D K.length)(hD:Maps.Tidy D)(hk:WideAt.IsKeyLit (kl x))(g:∀y∈K,Ok y)(n:Ok x)(c:∀y,Ok y->kl y=kl x->y=x)(k:¬x∈K):gE kl Ok (λ_=>True) (K++[x]) (D.put (kl x) (.lit (.int .i64 K.length))) (K++[x]).length:=by
 refine⟨?_,?_,?_⟩;intro i y a _;by_cases m:i<K.length;rw[dx m]at a;have l:=bg a;have b:kl y≠kl x:=λe=>k (c y (g y l) e▸l);exact⟨λz=>by rw[atKey_put_other b];exact(h.yes i y a bk).1 z,by rw[has_put_other b];exact(h.yes i y a bk).2⟩;rw[cB aA]at a;have j:i=K.length:=by have:=(aX.1 a).1;exact pC
 subst j;simp at a;subst a;exact Zh6;intro y a d;have b:y≠x:=λe=>d ⟨by simp[e],bk⟩;rw[has_put_other (λe=>b (c y a e))];exact h.no y a (λf=>d ⟨rV _ f.1,bk⟩);rw[size_put hD,h.no x n (λf=>k f.1),h.size];simp
def nX{α:Type}(K:List α)(n j:Nat)(x:α):Prop:=x∈K.take n\/x∈K.drop j
theorem Nx{K:List α}(h:gE kl Ok (λ_=>True) K D K.length)(e:n<=K.length):gE kl Ok (nX K n n) K D (n+(K.length-n)):=by refine⟨λi x b _=>h.yes i x b bk,λx b a=>h.no x b (λd=>a ⟨d.1,?_⟩),by rw[h.size];omega⟩;have c:=d.1;rw[<-iP n K]at c;exact ct.1 c
theorem WC{K:List α}{j:Nat}{x:α}(h:gE kl Ok (nX K n j) K D (n+(K.length-j)))(B:Maps.Tidy D)(o:K.Nodup)(s:∀y∈K,Ok y)(d:∀y,Ok y->kl y=kl x->y=x)(v:n<=j)(r:K[j]?=some x):gE kl Ok (nX K n (j+1)) K (D.del (kl x)) (n+(K.length-(j+1))):=by
 have C:=(aX.1 r).1;have a:K.drop j=x::K.drop (j+1):=by have e:=(aX.1 r).2;rw[qB C,e]
 have b:¬x∈K.take n:=by intro t;have m:=o;rw[<-iP j K,Fa]at m;exact m.2.2 x ((List.take_subset_take_left K v) t) x (by rw[a];simp) rfl
 have c:¬x∈K.drop (j+1):=by have m:=o.sublist (List.drop_sublist j K);rw[a]at m;exact(List.nodup_cons.1 m).1
 refine⟨?_,?_,?_⟩;intro i y g w;have q:y≠x:=by rintro rfl;exact w.elim b c
 have t:=bg g;have f:kl y≠kl x:=λe=>q (d y (s y t) e);have l:nX K n j y:=w.imp id (λe=>by rw[a];exact eO _ e);exact⟨λz=>by rw[atKey_del_other f];exact(h.yes i y g l).1 z,by rw[has_del_other f];exact(h.yes i y g l).2⟩;intro y g p;by_cases u:y=x;subst u;exact has_del_same;rw[has_del_other (λe=>u (d y g e))];refine h.no y g (λA=>p ⟨A.1,A.2.imp id (λe=>?_)⟩);rw[a]at e;exact(oz.1 e).resolve_left u;have h1:=size_del (k:=kl x) B;rw[(h.yes j x r (.inr (by rw[a];simp))).2,h.size]at h1;exact wo
theorem ql9{K:List α}(h:gE kl Ok (nX K n K.length) K D (n+(K.length-K.length)))(g:n<=K.length):gE kl Ok (λ_=>True) (K.take n) D (K.take n).length:=by
 refine⟨?_,?_,?_⟩;intro i x a _;have f:=(aX.1 a).1;simp at f;have c:K[i]?=some x:=by rw[BG aA]at a;exact a
 exact h.yes i x c (.inl (bg a));intro x a b;refine h.no x a (λd=>b ⟨?_,bk⟩);rcases d.2 with e|e;exact e;rw[Ln (aW _)]at e;exact bt;rw[h.size];exact aM
end
end
end Go.Proofs.YtegbdaffhpiacaaGreatDoor
