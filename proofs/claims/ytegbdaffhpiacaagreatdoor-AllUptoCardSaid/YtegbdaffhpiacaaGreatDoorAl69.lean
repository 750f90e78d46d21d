/- Part. -/
import Derived.Test.YtegbdaffhpiacaaGreatDoorAl57
set_option maxRecDepth 100000
set_option maxHeartbeats 1000000
open Go.Ending renaming returned->aH
open List renaming length->aA
open Go.Value renaming ownBlock->aB,tuple->aL
namespace Go.Proofs.YtegbdaffhpiacaaGreatDoor
open Go.Proofs.Tryz Go.RowKit Go.Maps Ar
section
variable{nd:Nd}{w W:ao}{sb mb p:Nat}{nv:au}{xs:PX}{T A:aY}{u:Nat->Int}{s:ax}{N:a6}{l:aU}
section
variable{N:a6}
theorem Zj2(h:RT N 0 nd):∃f,fL N (Z0 nd)=.ok nd f:=by
 have c:=Zi4 h.tx;obtain⟨ts,_,e,j,g⟩:=Is.app c;obtain⟨z,_,rfl,k,b⟩:=g.cons;have b:=b.nil;subst b;have i:aA (nE nd)<=aA (cr (Z0 nd)):=by have:=jQ List.length c;exact nJ
 have a:=Zk4 h (aA (cr (Z0 nd))) ts [z] i j;unfold fL;have d:((0:Nat):Int)=0:=rfl;rw[d]at a;rw[e]at a⊢;rw[a];simp only;rw[bO k];exact⟨_,rfl⟩
theorem Ar.RT.ok(i:oV N){d:Nat}(h:RT N d nd):Y2 nd:=by induction h with|name h b=>(exact .app h bK (λ_ a=>by cases a))|num g c=>(exact .num g c)|app h e b hd a f=>exact .app h (by have:=XC i b;omega) f
def Lq(w:ao)(sb:Nat)(N:a6)(I:tL):Prop:=∀ (W:ao) (s:ax) (nd:Nd),eX w W->s.toList=Z0 nd->s.size<=600->RT N 0 nd ->
 cP 77 #[pT sb,.string s] W fun e a=>e=aH (aL #[iI (ff I nd),iI 0,iI 0])/\eX W a
theorem Lq.ext{w':ao}{I:tL}(h:Lq w sb N I)(b:eX w w'):Lq w' sb N I:=λW s nd a=>h W s nd (b.z a)
theorem Zo0(a:PS W sb N nv xs)(c:xs.vd=iI 1)(d:xs.ml=.map (some mb))(n:lI W mb (aA T) (keys T) u (aA T))(h:gn T A)(m:aA T<=12)(p:(gC (keys T) (dw T A)).V u)(g:gT W)(q:s.toList=Z0 nd)(j:s.size<=600)(l:RT N 0 nd):cP 77 #[pT sb,ai s] W λe r=>e=aH (aL #[iI (ff (gO T u) nd),iI 0,iI 0])/\eX W r:=by have i:=a.bP;rw[c,d]at i;obtain⟨c7,c8⟩:=db i 7 8;have dn:=j9 i;have HC:=q8 (On s W j a.gJ g);obtain⟨_,b⟩:=Zj2 l;rw[<-q]at b;have HV:Hid (Fj T u mb nd):=jW2 h m p (l.ok a.ok);obtain⟨HUS,HM,KB⟩:=bV b n i;clear a c d n h m p g l b i;delta cP;go_in;go_wp2_with fail;refine HC.I ?_;rintro en w1 ⟨dd,hp⟩;rw[HUS.o]at hp;obtain⟨k,wd,v,sa,sn,sc,rfl,od⟩:=hp;obtain⟨cw,kh⟩:=bM dd od;have k1:=(dd.block _ dn id).z KB;obtain⟨d7,d8⟩:=db k1 7 8;clear dd od HC c7 c8;go_wp2_with fail;obtain⟨V,eC⟩:∃V,w1.alloc (.cells #[iI k,.string wd,iI v,.slice sa sn sc] 115)=V:=⟨_,rfl⟩;have qu:eX w1 V:=by{rw[<-eC];exact Cr};have kV:V.heap[w1.heap.size]?=some (.cells #[iI k,.string wd,iI v,.slice sa sn sc] 115):=by{rw[<-eC];exact xC};rw[eC];have e8:=z7 (qu.K k1) 8;obtain⟨n0,n1,n2,n3⟩:=dR kV 0 1 2 3;have fO:Hid (eX W V):=cw.z qu;obtain⟨Dm,m1,m2,m3⟩:=HM.o;have lG:=q8 (HV V.drew (λx=>W.heap.size<=x) k wd v sa sn sc (kh.ext qu.drew (λ_ _ _ f=>f)) ⟨Dm,J8 m1 fO.drew id,m2,m3⟩);clear eC qu kV k1 d7 d8 m1 m2 m3;go_region_law (go_simp;go_wp2_with(go_at_call 115;refine lG.I ?_;rintro e w2 ⟨rfl,cI⟩;have bT:=q8 cI;clear cI));all_goals go_wp2_with fail;refine cq (v:=.tuple #[iI (ff (gO T u) nd),iI 0,iI 0]) UY rfl ?_;exact⟨rfl,fO.drew.z bT⟩
def Fnd(w:ao)(sb:Nat)(N:a6)(L:br)(r:Bool):Prop :=
 ∃ T A K nv xs D Y,PL w sb N L T A K nv xs D Y/\(r=true->xs.vd=iI 1/\∃ mb u,xs.ml=.map (some mb)/\Fits T A (L.map Prod.fst) u/\lI w mb (aA T) (keys T) u (aA T))/\(r=false->xs.vd=iI 2)
theorem Fnd.val{L:List (Nd×Int)}(h:Fnd w sb N L true)(j:gT w):∃I,(∀f∈L.map Prod.fst,cD (iY (ff I)) f=true)/\(∀t,Y2 t->Sm (ff I t))/\Lq w sb N I:=by
 obtain⟨T,A,_,_,_,_,_,a,d,_⟩:=h;obtain⟨e,_,u,i,⟨l,_,v,n⟩,y⟩:=d rfl;have b:gn T A:=⟨a.ss.p.ts.cl,a.ss.p.ts.nd,a.ss.p.ac,a.ss.p.nd⟩;have k:∀p∈L.map Prod.fst,ee p/\∀x∈Z1 false p,x∈A:=by intro p o;obtain⟨q,m,rfl⟩:=dP.1 o;exact⟨a.fw q m,λx c=>(a.st.aw.mem x).2 ⟨q,m,c⟩⟩
 refine⟨gO T u,Zp5 b k l v n,λt d=>Zk1 b a.ss.lK l d,λ_ _ _ c s g r=>?_⟩;exact Zo0 (a.ss.ps.ext c id (λ_ _ f=>f)) e i (y.ext c id) b a.ss.lK l (j.ext c id) s g r
end
theorem Zg2(p:au)(s:ax)(w:ao)(a:600<s.size)(hm:s.size<=maxLen):cP 71 #[ai s,p,.func (.func 153) #[] #[]] w λe w'=>e=aH (aL #[.agg #[iI 0,ag,iI 0,ae],iI 0,iI 1])/\eX w w':=(by unfold maxLen at hm;delta cP;go_in;go_wp2_with fail;refine cq (v:=.tuple #[.agg #[iI 0,ag,iI 0,ae],iI 0,iI 1]) Zqi rfl ⟨rfl,?_⟩;exact Ch)
theorem Zh2(p:au)(s:ax)(w:ao)(c:600<s.size)(d:s.size<=maxLen):cP 114 #[ai s,p] w λe w'=>e=aH (aL #[.agg #[iI 0,ag,iI 0,ae],iI 0,iI 1])/\eX w w':=by have b:=λW=>q8 (Zg2 p s W c d);clear c d;delta cP;go_in;go_wp2_with fail;refine(b _).o.mono ?_;rintro e g ⟨rfl,a⟩;have cw:=q8 a;have f:g.heap[w.heap.size]?=ad #[iI 0,ag,iI 0,ae] 115:=(a.block _ (j9 (bR w _)) id).z (bR w _);obtain⟨z0,z1,z2,z3,_,_,_,_⟩:=dF f 0 1 2 3 0 1 2 3;clear a f b;go_wp2_with fail;refine cq (v:=aL #[.agg #[iI 0,ag,iI 0,ae],iI 0,iI 1]) Zcv rfl ⟨rfl,?_⟩;exact ZlX
theorem Zk5{e:Int}(h:fL N l=.no e p):e≠0:=by have hg:=VJ N (aA (cr l)) 0 (cr l) (Da l 0 []) (cj _);unfold fL at h;exact ZgE
theorem qy7(b:oV N){ts:aZ}(h:fL N l=.ok nd ts):Y2 nd:=by unfold fL at h;split at h;exact ga;exact ga;rename_i c t d a;split at h;simp at h;obtain⟨rfl,_⟩:=h;exact Ot b _ _ _ _ _ a;exact ga
section
variable{N:a6}
theorem Zo7(a:PS W sb N nv xs)(c:xs.vd=iI 1)(d:xs.ml=.map (some mb))(m:lI W mb (aA T) (keys T) u (aA T))(h:gn T A)(l:aA T<=12)(n:(gC (keys T) (dw T A)).V u)(g:gT W){p:aZ}(j:s.size<=600)(b:fL N s.toList=.ok nd p):cP 77 #[pT sb,ai s] W λe q=>e=aH (aL #[iI (ff (gO T u) nd),iI 0,iI 0])/\eX W q:=by have i:=a.bP;rw[c,d]at i;obtain⟨c7,c8⟩:=db i 7 8;have dn:=j9 i;have HC:=q8 (On s W j a.gJ g);have HV:Hid (Fj T u mb nd):=jW2 h l n (qy7 a.ok b);obtain⟨HUS,HM,KB⟩:=bV b m i;clear a c d m h l n g b i;delta cP;go_in;go_wp2_with fail;refine HC.I ?_;rintro en w1 ⟨dd,hp⟩;rw[HUS.o]at hp;obtain⟨k,wd,v,sa,sn,sc,rfl,od⟩:=hp;obtain⟨cw,kh⟩:=bM dd od;have k1:=(dd.block _ dn id).z KB;obtain⟨d7,d8⟩:=db k1 7 8;clear dd od HC c7 c8;go_wp2_with fail;obtain⟨V,eC⟩:∃V,w1.alloc (.cells #[iI k,.string wd,iI v,.slice sa sn sc] 115)=V:=⟨_,rfl⟩;have qu:eX w1 V:=by{rw[<-eC];exact Cr};have kV:V.heap[w1.heap.size]?=some (.cells #[iI k,.string wd,iI v,.slice sa sn sc] 115):=by{rw[<-eC];exact xC};rw[eC];have e8:=z7 (qu.K k1) 8;obtain⟨n0,n1,n2,n3⟩:=dR kV 0 1 2 3;have fO:Hid (eX W V):=cw.z qu;obtain⟨Dm,m1,m2,m3⟩:=HM.o;have lG:=q8 (HV V.drew (λx=>W.heap.size<=x) k wd v sa sn sc (kh.ext qu.drew (λ_ _ _ f=>f)) ⟨Dm,J8 m1 fO.drew id,m2,m3⟩);clear eC qu kV k1 d7 d8 m1 m2 m3;go_region_law (go_simp;go_wp2_with(go_at_call 115;refine lG.I ?_;rintro e w2 ⟨rfl,cI⟩;have bT:=q8 cI;clear cI));all_goals go_wp2_with fail;refine cq (v:=.tuple #[iI (ff (gO T u) nd),iI 0,iI 0]) UY rfl ?_;exact⟨rfl,fO.drew.z bT⟩
end
def uC(N:a6)(I:tL)(s:ax):Int × Int × Int :=
 if 600<s.size then(0,0,1) else
  match fL N s.toList with
  | .no e p=>(0,p,e)
  | .ok nd _=>(ff I nd,0,0)
theorem Zk6(a:PS W sb N nv xs)(b:xs.vd=iI 1)(h:600<s.size)(g:s.size<=maxLen):cP 77 #[pT sb,ai s] W λe j=>e=aH (aL #[iI 0,iI 0,iI 1])/\eX W j:=by have f:=a.bP;rw[b]at f;have i:=z7 f 7;have k:=q8 (Zh2 (pT sb) s W h g);clear a b h g f;delta cP;go_in;go_wp2_with fail;refine k.I ?_;rintro e _ ⟨rfl,c⟩;have d:=q8 c;clear c i;go_wp2_with fail;refine cq (v:=aL #[iI 0,iI 0,iI 1]) UY rfl ?_;exact⟨rfl,d.alloc _⟩
theorem Zo8(a:PS W sb N nv xs)(b:xs.vd=iI 1)(f:gT W){c:Int}(l:s.size<=600)(i:fL N s.toList=.no c p):cP 77 #[pT sb,ai s] W λe t=>e=aH (aL #[iI 0,iI p,iI c])/\eX W t:=by
 have j:=a.bP;rw[b]at j;have n:=z7 j 7;have q:=q8 (On s W l a.gJ f);have m:(c !=0)=true:=by simpa using Zk5 i
 have o:=q8 i;clear a b f l i j;delta cP;go_in;go_wp2_with fail;refine q.I ?_;rintro r _ ⟨d,h⟩;rw[o.o]at h;have g:r=_:=h;subst g;have k:=q8 d;clear d h n;go_wp2_with fail;refine cq (v:=aL #[iI 0,iI p,iI c]) UY rfl ?_;exact⟨rfl,k.alloc _⟩
theorem Zo9{d:Int}(a:PS W sb N nv xs)(b:xs.vd=iI d)(hd:¬d=1)(s:ax):cP 77 #[pT sb,ai s] W λe g=>e=aH (aL #[iI 0,iI 0,iI 12])/\eX W g:=by
 have c:=a.bP;rw[b]at c;have h:=z7 c 7;have f:(d !=1)=true:=by simpa using hd
 clear a b hd c;delta cP;go_in;go_wp2_with fail;refine cq (v:=aL #[iI 0,iI 0,iI 12]) UY rfl ?_;exact UF
theorem Zm5(a:PS W sb N nv xs)(b:xs.vd=iI 1)(f:xs.ml=.map (some mb))(i:lI W mb (aA T) (keys T) u (aA T))(h:gn T A)(j:aA T<=12)(l:(gC (keys T) (dw T A)).V u)(c:gT W)(s:ax)(k:s.size<=maxLen):cP 77 #[pT sb,ai s] W λe m=>e=aH (aL #[iI (uC N (gO T u) s).1,iI (uC N (gO T u) s).2.1,iI (uC N (gO T u) s).2.2])/\eX W m:=by unfold uC;by_cases d:600<s.size;rw[bO d];exact Zk6 a b d k;rw[bL d];cases g:fL N s.toList with|no e p=>(exact Zo8 a b c bH g)|ok nd n=>exact Zo7 a b f i h j l c bH g
end
section
variable{ps:aY}{pv:au}{wr:ao}{ids:List Nat}{n:Nat}
section
variable{w w':ao}{sb:Nat}{N:a6}{L:br}{T A:aY}{K:List dt}{nv:au}{xs:PX}{D:aj}{Y:List ak}
theorem Zr0(r:Bool)(b:Option Addr)(c a:Nat)(w:ao):Sem.run prog (Instr.field 74 (.agg #[.bool r,.slice b c a]) 0) w=.ok (.bool r) w:=bS
def Mo:Nd:=.mk 0 ay 0 []
def iD(ps:aY)(ids:List Nat):aY:=ids.map fun i=>ps.getD i Mo
structure CB(w:World)(D:Nat->Prop)(A ps:aY)(pv:Value)(wr:World):Prop where
 ext:eX w wr
 ex:∃ kids:List (List Value),wr.ownsRow 0 112 4 pv (aA ps) kids.flatten/\(∀ cs∈kids,aA cs=4)/\aA kids=aA ps/\∀ (i:Nat) (cs:List Value) (p:Nd),kids[i]?=some cs->ps[i]?=some p->FT w D A cs p
 ob:∀ g,aB pv=some g->w.heap.size<=g
theorem CB.step{f:au}{l:ao}{cs:ak}{p:Nd}{o:Obj}(h:CB w D A ps pv wr)(v:FT w D A cs p)(n:aA cs=4)(b:(wr.alloc o).grownBy l (aB pv))(m:aB f=aB pv\/aB f=some (wr.heap.size+1)){kids:List ak}(t:∀cs∈kids,aA cs=4)(s:aA kids=aA ps)(u:∀(i:Nat)(cs:ak)(p:Nd),kids[i]?=some cs->ps[i]?=some p->FT w D A cs p)(c9:l.ownsRow 0 112 4 f (aA ps+1) (kids.flatten++cs)):CB w D A (ps++[p]) f l:=by have z:q9 (λk=>aB pv=some k) wr l:=(((eR wr).alloc o).M).grown b (λk r _=>r);refine⟨h.ext.z' z (λk r e=>by have:=h.ob k e;omega),⟨kids++[cs],?_,λc a=>?_,by simp[s],λi c q a d=>?_⟩,λg j=>?_⟩;rw[cO,List.flatten_append];exact xy;rcases da.1 a with a|a;exact t c a;simp at a;rw[a];exact n;by_cases y:i<aA ps;rw[ei y]at d;rw[ei bH]at a;exact u i c q a d;have x:=(ck.1 d).1;simp at x;obtain rfl:i=aA ps:=bH;rw[du (cj _)]at d;rw[du bH,s]at a;simp at d a;subst d a;exact v;rcases m with e|e;rw[e]at j;exact h.ob g j;rw[e]at j;simp at j;have:=h.ext.size;omega
theorem CB.kids(h:CB w D A ps pv wr):jx wr (λk=>D k\/w.heap.size<=k) A ps pv:=by obtain⟨kids,d,b,j,c⟩:=h.ex;exact⟨kids,d,b,j,λg l=>.inr (h.ob g l),λi cs p m a=>((c i cs p m a).ext h.ext (λ_ _ _ f=>f)).I (λ_ _ e=>.inl e)⟩
theorem Zp9:CB w D A [] (ae) w:=⟨q9.refl _ _,⟨[],fB _ _ _ _,bK,rfl,bK⟩,λ_ a=>by simp[Value.ownBlock]at a⟩
theorem Zm0{j x:Nat}(h:ids[j]?=some x):iD ps (ids.take (j+1))=iD ps (ids.take j)++[ps.getD x Mo]:=by unfold iD;rw[fH,h,nK];rfl
theorem Zj5(h:PL w sb N L T A K nv xs D Y)(hp:y9 w){g cap:Nat}(hi:w.ownsRow 0 3 1 (az g n cap) n (fZ ids))(hn:n<=20)(v:∀i∈ids,i<aA L):cP 76 #[pT sb,az g n cap] w λe w'=>∃r,e=aH (.bool r)/\(r=true↔¬Sat (iD (L.map Prod.fst) ids))/\eX w w':=by
 have G:∀p∈L.map Prod.fst,ee p/\∀x∈Z1 false p,x∈A:=Zhi;have kb:=h.ss.p.ts.bP;obtain⟨fa,fc,e1⟩:=Z3 h.ss.jh.1;have oq:=sL hi;have Kg:n<=cap:=ZhE;obtain⟨H,HP,HI,F,X⟩:=eS h hp hi v G;obtain⟨_,_,_,_,_,_,_,_⟩:=xs;simp only at e1;subst e1;have KB:=q8 kb;have dn:=j9 kb;clear h hp hi v G kb;delta cP;go_in;have I:=H.o.kids;obtain⟨i0,l,b,o,d⟩:=cR IG;obtain⟨HI0,RA⟩:=bM (And.intro l (And.intro b (And.intro o d))) I;clear I l b o d;go_wp2_with fail;go_loopw [5,10](λvs vi wr=>∃j:Nat,j<=n/\vi=iI j/\CB w (λk=>D k\/aB (Value.slice fa (aA Y) fc)=some k) A (iD (L.map Prod.fst) (ids.take j)) vs wr)(λ_ vi _=>n-(intOf vi).toNat);case atStart=>exact⟨0,cf _,rfl,Zp9⟩
 case round=>obtain⟨j,_,rfl,m⟩:=hrel;have t:=q8 m;have kr:=(m.ext.block _ dn id).z KB;have c5:=z7 kr 5;have B:aA (iD (L.map Prod.fst) (ids.take j))=j:=by{unfold iD;rw[fG,eF];omega};obtain⟨sa,sc,E⟩:∃sa sc,u5=.slice sa j sc:=by{obtain⟨kids,h1,_⟩:=m.ex;rw[B]at h1;exact Z3 h1};clear m kr;by_cases v:j<n;{obtain⟨x,hx⟩:∃x,ids[j]?=some x:=⟨_,bZ bH⟩;have S:=F x (cm hx);have z:=Fk (j8 HI t.ext (λ_ _ f=>f)) hx;obtain⟨p,hp⟩:∃p,(L.map Prod.fst)[x]?=some p:=⟨_,bZ (by simpa using S)⟩;obtain⟨gf,_,k',Z,a',qa,qn,qc,O,s,y0,y1,y2,y3,P⟩:=RA.part hp;simp only[fG,Value.slice.injEq]at O;obtain⟨rfl,_,rfl⟩:=O;have Xb:=(t.ext.cell (p:=⟨gf,x*4,none⟩) s id).z y0;have yi:=(t.ext.cell (p:=⟨gf,x*4+1,none⟩) s id).z y1;have Xc:=(t.ext.cell (p:=⟨gf,x*4+2,none⟩) s id).z y2;have Xd:=(t.ext.cell (p:=⟨gf,x*4+3,none⟩) s id).z y3;have hxY:x<aA Y:=bH;have hjc:j<cap:=bH;obtain⟨ry,HXX,HPP⟩:=bV P hx hp;obtain⟨kids,h1,h2,h3,h4⟩:=t.o.ex;rw[B]at h1;subst E;obtain⟨HH1,HH2,V,U⟩:=cK h1 h2 h3 h4;obtain⟨l,b,o,d⟩:=HI0.o;clear P hx hp h1 h2 h3 h4 y0 y1 y2 y3;go_wp2_with(at_builtin;refine gQ _ rfl _ _ 89 rfl 0 112 i0 _ 4 56 underlying89 l b o d rfl bJ _ _ _ rfl (HH1.alloc _) (aD wr.heap.size 0) 1 1 [iI k',ai Z,iI a',.slice qa qn qc] rfl rfl ? c1 ? c2 ? c3 ? c4 ? c5 ?_);(case c1=>intro q u hq;match q,hq with|0,hq=>{exact Up}|1,hq=>{exact Up}|2,hq=>{exact Up}|3,hq=>exact Up);(case c2=>exact ZcD);(case c3=>exact cN);(case c4=>omega);(case c5=>omega);intro _ w2 a c _ J;have y:=t.step ry rfl c J HH2 V U (by rw[B];exact a);have e2:(L.map Prod.fst).getD x Mo=p:=by{rw[uV,HPP.o];rfl};rw[<-e2,<-Zm0 HXX.o]at y;obtain⟨_,_,rfl⟩:=Z3 a;have W:=q8 y;clear a c J y e2 l b o d;go_wp2_with fail;go_roundw;(case measure=>exact ch);case rel=>exact⟨j+1,bH,bW,W⟩};have Q:j=n:=bH;subst Q;have lA:¬(j:Int)<(j:Int):=bH;have M:iD (L.map Prod.fst) (ids.take j)=iD (L.map Prod.fst) ids:=by{rw[cZ bH]};have m:=t.o;rw[M]at m;have hd:=qU2 (H.ss.p.ext m.ext (λ_ _ f=>f)) H.ss.lK H.ss.pA H.st.te m.kids (λp hp=>by unfold iD at hp;obtain⟨i,hi,rfl⟩:=dP.1 hp;have Ia:=F i hi;rw[uV,bZ (by simpa using Ia)];exact X _ (G' _)) (HP.ext m.ext id);obtain⟨HD,R⟩:=bM hd m.ext;subst E;clear hd m M;go_wp2_with fail;refine HD.I ?_;rintro e w2 ⟨r,_,rfl,C,hr,_,ma,mn,mc,rfl⟩;obtain⟨HR,bT⟩:=bM hr (R.z C);have yC:=Zr0 r ma mn mc w2;clear hr C HD;go_wp2_with fail;go_ret;refine⟨! r,rfl,?_,bT⟩;rw[<-HR.o];cases r<;>simp
end
section
variable{w w':ao}{sb:Nat}{N:a6}{L:br}{T A:aY}{K:List dt}{nv:au}{xs:PX}{D:aj}{Y:List ak}
structure Bl(ps:aY)(n:Nat)(ids:List Nat):Prop where
 up:ids.Pairwise (·<·)
 lt:∀ i∈ids,i<n
 no:¬Sat (iD ps ids)
theorem Bl.start(h:¬Sat ps):Bl ps (aA ps) (List.range (aA ps)):=by
 refine⟨List.pairwise_lt_range,λi a=>xG.1 a,λb=>h ?_⟩;have e:iD ps (List.range (aA ps))=ps:=by apply zH;intro i;unfold iD;rw[dN];by_cases a:i<aA ps;rw[CS a,GZ,uV,bZ a];rfl;rw[jl bQ,jl bH];rfl
 rw[<-e];exact b
theorem Bl.less{one:Nat}(h:Bl ps n ids)(b:¬Sat (iD ps (ids.filter (λx=> !(x==one))))):Bl ps n (ids.filter (λx=> !(x==one))):=⟨h.up.filter _,λi a=>h.lt i (pS.1 a).1,b⟩
theorem Bl.cL(h:Bl ps n ids):aA ids<=n:=by
 have c:∀(l:List Nat)(a:Nat),l.Pairwise (·<·)->(∀i∈l,a<=i/\i<n)->a<=n->aA l+a<=n:=by intro l;induction l with|nil=>(intro a _ _ e;simpa using e)|cons x l f=>intro a d hb e;have g:=hb x bK;have:=f (x+1) (List.pairwise_cons.1 d).2 (λi b=>⟨(List.pairwise_cons.1 d).1 i b,(hb i (by simp[b])).2⟩) bH;simp;omega
 have:=c ids 0 h.up (λi b=>⟨cf _,h.lt i b⟩) (cf _);omega
theorem Zq0(h:PL w sb N L T A K nv xs D Y)(hp:y9 w)(s:¬Sat (L.map Prod.fst)):cP 75 #[iI (aA L),.func (.func 76) #[pT sb] #[]] w λe w'=>∃g m cap,e=aH (az g m cap)/\eX w w'/\w.heap.size<=g/\∃ids,w'.ownsRow 0 3 1 (az g m cap) m (fZ ids)/\Bl (L.map Prod.fst) (aA L) ids:=by
 have hL0:0<aA L:=by cases L with|nil=>(exact absurd jR9 s)|cons a l=>simp
 have d:aA L<=20:=by rw[<-h.yl];exact h.ss.qx
 have q:=Bl.start s;rw[fG]at q;obtain⟨t,H,HP⟩:=bV q h hp;clear h hp s q;delta cP;go_in;go_wp2_with fail;refine(Zo1 w (aA L) hL0 d).I ?_;rintro e _ ⟨v,rfl,C,o7,u⟩;obtain⟨g1,c1,rfl⟩:∃g1 c1,v=az g1 (aA L) c1:=ZhJ;have S:w.heap.size<=g1:=by simp[Value.ownBlock]at u;omega
 obtain⟨M,I⟩:=bM C o7;clear C o7 u;go_wp2_with fail;go_loopw [5,11](λvs Z wr=>∃(j g m cap:Nat)(ids:List Nat),j<=aA L/\w.heap.size<=g/\vs=az g m cap/\Z=iI j/\eX w wr/\wr.ownsRow 0 3 1 (az g m cap) m (fZ ids)/\Bl (L.map Prod.fst) (aA L) ids/\∀i,j<=i->i<aA L->i∈ids)(λ_ Z _=>aA L-(intOf Z).toNat);case atStart=>exact⟨0,g1,(aA L),c1,_,cf _,S,rfl,rfl,M,I,t,λi _ J=>xG.2 J⟩
 case round=>clear M I t;obtain⟨j,g,m,cap,ids,_,B,rfl,rfl,hx,W,hB,E⟩:=hrel;obtain⟨HX,P,O,p⟩:=cK hx W hB E;have hm:m<=20:=by{rw[<-sL W];exact dm hB.cL d};clear hx W hB E;by_cases Q:j<aA L;{have y:=q8 (Zi1 j P hm (p j (cj _) Q));go_wp2_with fail;refine y.I ?_;rintro e _ ⟨g2,m2,c2,rfl,n,b,U⟩;have z:w.heap.size<=g2:=dm HX.size U;have V:m2<=20:=by{rw[<-sL b];exact dm (CT _ _) (by rw[sL P.o];exact hm)};obtain⟨o,F,R⟩:=bV (HX.z n) n b;have G:=q8 (Zj5 (H.ext o (λ_ _ f=>f)) (HP.ext o id) b V (λi J=>O.lt i (pS.1 J).1));clear n b y;go_wp2_with fail;refine G.I ?_;rintro e _ ⟨r,rfl,X,k⟩;obtain⟨x,c⟩:=bM (o.z k) k;clear k G;cases r with|false=>(clear X;go_wp2_with fail;go_roundw;(case measure=>exact ch);case rel=>exact⟨j+1,g,m,cap,ids,bH,B,rfl,bW,x.o,j8 P.o (F.o.z c.o) (λ_ _ f=>f),O.o,λi J=>p.o i bH⟩)|true=>have HR:=q8 (X.1 rfl);clear X;go_wp2_with fail;go_roundw;(case measure=>exact ch);case rel=>exact⟨j+1,g2,m2,c2,_,bH,z,rfl,bW,x.o,j8 R.o c.o (λ_ _ f=>f),O.o.less HR.o,λi J hl=>pS.2 ⟨p.o i bH hl,bQ⟩⟩};have lA:¬(j:Int)<(aA L:Int):=bH;go_wp2_with fail;go_ret;exact⟨g,m,cap,rfl,HX,B,ids,P,O⟩
def Tp(w:ao)(sb:Nat)(L:br):Prop:=∀ W,eX w W ->
 cP 49 #[pT sb] W fun e a=>∃ g m cap,e=aH (aL #[az g m cap,iI 0])/\eX W a/\W.heap.size<=g/\∃ ids,a.ownsRow 0 3 1 (az g m cap) m (fZ ids)/\Bl (L.map Prod.fst) (aA L) ids
theorem Zo3(h:PL w sb N L T A K nv xs D Y)(a:xs.vd=iI 2)(r:y9 w)(c:¬Sat (L.map Prod.fst)):Tp w sb L:=by intro _ k;have p:=Zq0 (h.ext k (λ_ _ f=>f)) (r.ext k id) c;rw[<-h.yl]at p;have i:=q8 h.yl;have t:=k.K h.ss.p.ts.bP;obtain⟨_,_,s⟩:=Z3 h.ss.jh.1;obtain⟨_,_,_,_,_,_,_,_⟩:=xs;simp only at s a;subst s a;obtain⟨_,_⟩:=db t 5 7;have q:=q8 p;clear h p t r c;go_enter func49,ntmps49;go_wp2_with fail;refine q.I ?_;rintro _ _ ⟨g,m,cap,rfl,b,j,ids,d,e⟩;obtain⟨o,n,l⟩:=bV b d e;clear b d e q;go_wp2_with fail;refine cq (v:=aL #[az g m cap,iI 0]) Zkb rfl ?_;refine⟨g,m,cap,rfl,o,j,ids,n,?_⟩;rw[<-i.o];exact l
end
end
end Go.Proofs.YtegbdaffhpiacaaGreatDoor
