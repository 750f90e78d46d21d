/- Part. -/
import Derived.Test.YtegbdaffhpiacaaGreatDoorAl67
import Derived.Test.YtegbdaffhpiacaaGreatDoorAl69
set_option maxRecDepth 100000
set_option maxHeartbeats 1000000
open Bool renaming false->aT,true->aS
open Go.Ending renaming returned->aH
open List renaming length->aA
open Go.Obj renaming cells->aG
open Option renaming none->aR,some->aQ
open Or renaming inl->aO,inr->aP
open Go.Value renaming agg->aJ,ownBlock->aB,slice->aI,tuple->aL
open Go.World renaming cell?->aE,ownsRow->aC
namespace Go.Proofs.YtegbdaffhpiacaaGreatDoor
open Go.Proofs.Tryz Go.RowKit Go.Maps Ar
section
variable{S:aj}{nv lv:au}{b:Int}{U V:aY}{ids:List Nat}{w:ao}
def Gq(w:ao)(L:br)(T A:aY)(xs:PX)(a:Int)(M:aj):Prop :=
 (a=0/\xs.vd=iI 0/\M=fun _=>False)\/(a=1/\xs.vd=iI 1/\∃ mb u,xs.ml=.map (aQ mb)/\Fits T A (L.map Prod.fst) u/\lI w mb (aA T) (keys T) u (aA T)/\M=fun k=>k=mb)\/(a=2/\xs.vd=iI 2/\¬Sat (L.map Prod.fst)/\M=fun _=>False)
def fk(sb:Nat)(N:a6)(L:br)(d:Nat)(a:Int)(w:ao)(F:aj):Prop :=
 ∃ T A K nv xs D Y M,PL w sb N L T A K nv xs D Y/\aA K=d/\Gq w L T A xs a M/\(∀ k,M k->k<w.heap.size/\¬(SF sb nv xs k\/D k))/\F=fun k=>(SF sb nv xs k\/D k)\/M k
section
variable{w w':ao}{sb:Nat}{N N':a6}{L L':br}{d d':Nat}{a:Int}{F:aj}{T A:aY}{K K':List dt}{nv:au}{xs Cc:PX}{D M:aj}{Y:List ak}
theorem Gq.ext(h:Gq w L T A xs a M)(m:q9 S w w')(j:∀k,M k->¬S k)(e:Cc.vd=xs.vd)(i:Cc.ml=xs.ml):Gq w' L T A Cc a M:=by rcases h with⟨b,d,c⟩|⟨b,d,mb,u,c,l,g,f⟩|⟨b,d,c⟩;exact aO ⟨b,e.z d,c⟩;exact aP (aO ⟨b,e.z d,mb,u,i.z c,l,g.ext m (j mb (by rw[f])),f⟩);exact aP (aP ⟨b,e.z d,c⟩)
theorem lq:mX (fk sb N L d a):=by rintro _ _ _ _ ⟨T,A,K,nv,xs,D,Y,M,h,b,g,e,rfl⟩c f;exact⟨T,A,K,nv,xs,D,Y,M,h.ext c (λk b=>f k (aO b)),b,g.ext c (λk b=>f k (aP b)) rfl rfl,λk b=>⟨cC (e k b).1 c.size,(e k b).2⟩,rfl⟩
theorem Mp:qX (fk sb N L d a):=by rintro _ _ ⟨_,_,_,_,_,_,_,_,c,b,_,f,rfl⟩k b;exact b.elim (c.lt k) (λe=>(f k e).1)
theorem PL.vd(h:PL w sb N L T A K nv xs D Y):lL w sb xs.vd xs.ml:=⟨z7 h.ss.p.ts.bP 7,z7 h.ss.p.ts.bP 8⟩
theorem lL.inj{v m b c:au}(h:lL w sb v m)(a:lL w sb b c):v=b/\m=c:=⟨eI (h.1.symm.trans a.1),eI (h.2.symm.trans a.2)⟩
theorem uw.zero{F0:aj}(h:uw w F0 sb N L d w')(i:lL w' sb (iI 0) (.map aR))(b:∀k,F0 k->F k):cW w F (fk sb N L d 0) w':=by obtain⟨g,_,⟨T,A,K,nv,xs,D,Y,c,a,rfl⟩,hb⟩:=h;refine⟨g.I (λk _ e=>b k e),_,⟨T,A,K,nv,xs,D,Y,λ_=>False,c,a,aO ⟨rfl,(c.vd.inj i).1,rfl⟩,λ_ f=>f.elim,rfl⟩,λk a=>?_⟩;rcases a with a|a;exact(hb k a).imp (b k) id;exact a.elim
theorem PL.asked(h:PL w sb N L T A K nv xs D Y)(l:Gq w L T A xs a M)(b:∀k,M k->k<w.heap.size/\¬(SF sb nv xs k\/D k))(g:jM w sb nv xs N T A Y K w')(o:lL w' sb xs.vd xs.ml):cW w (λk=>(SF sb nv xs k\/D k)\/M k) (fk sb N L (aA K) a) w':=by obtain⟨d,f,Cc,q,hF⟩:=g;have c:PL w' sb N L T A K f Cc D Y:=⟨q,h.yl,λi cs p n e2=>(h.ft i cs p n e2).ext d (λk _ hd=>(h.dk k hd).2),h.st,h.fw,λk hk=>⟨cC (h.dk k hk).1 d.size,λe=>TG⟩⟩;obtain⟨j,m⟩:=c.vd.inj o;refine⟨d.I (λk _ e=>aO (aO e)),_,⟨T,A,K,f,Cc,D,Y,M,c,rfl,l.ext d (λk hk e=>(b k hk).2 (aO e)) j m,λk hk=>⟨cC (b k hk).1 d.size,λe=>?_⟩,rfl⟩,λk hk=>?_⟩;rcases e with e|e;rcases hF k e with e2|e2;exact(b k hk).2 (aO e2);have:=(b k hk).1;omega;exact(b k hk).2 (aP e);rcases hk with(hk|hk)|hk;exact(hF k hk).imp (λe=>aO (aO e)) id;exact aO (aO (aP hk));exact aO (aP hk)
theorem Zp0(w:ao):cP 36 #[] w λe w'=>e=aH (pT w.heap.size)/\eX w w'/\∃F,fk w.heap.size [] [] 0 0 w' F/\∀k,F k->w.heap.size<=k:=by refine(Zd9 w).I ?_;rintro e w' ⟨rfl,c,b,_⟩;refine⟨rfl,c,_,⟨[],[],[],ae,kj,λ_=>False,[],λ_=>False,⟨jS5 b,rfl,bK,jN0,bK,λ_ f=>f.elim⟩,rfl,aO ⟨rfl,rfl,rfl⟩,λ_ f=>f.elim,rfl⟩,λk a=>?_⟩;rcases a with(a|a)|a;rcases Zb1.1 a with e|e;omega;simp[Value.ownBlock]at e;exact a.elim;exact a.elim
theorem Zh3(h:fk sb N L d a w F)(s:ax)(b:Int)(n:s.size<=maxLen):cP 20 #[pT sb,ai s,iI b] w λe w'=>e=aH (iI (J7 N s.toList b))/\cW w F (fk sb (fT N d s b) L d (if J7 N s.toList b=0 then 0 else a)) w':=by
 obtain⟨_,_,K,_,_,_,_,_,c,rfl,m,j,rfl⟩:=h;refine(qV0 (aA K) s b c.ss.ps n).I ?_;rintro e w' hd;obtain⟨o,g,l,i⟩:=qV7 c.ss hd;refine⟨o,?_⟩;by_cases f:J7 N s.toList b=0;rw[bO f];exact(c.same g (c.st.decl s b)).zero (l f) (λ_ k=>aO k);rw[bL f];have e:fT N (aA K) s b=N:=by rw[fT,bL f]
 rw[e]at g⊢;exact c.asked m j g (i f)
theorem Zm6(h:fk sb N L d a w F)(s:ax)(g:s.size<=maxLen)(b:nF w):cP 52 #[pT sb,ai s] w λe w'=>e=aH (aL #[ai ⟨(U2 N s).1.toArray⟩,iI (U2 N s).2.1,iI (U2 N s).2.2])/\cW w F (fk sb N L d a) w':=by have c:=h;obtain⟨_,_,_,_,_,_,_,_,j,rfl,_,_,rfl⟩:=h;refine(Yd s w g j.ss.ps.gJ b.hd b.vS).I ?_;rintro e w' ⟨_,rfl,f,i⟩;rw[o6 f];exact⟨rfl,(cW.same c).more lq i⟩
theorem Zm7(h:fk sb N L d a w F)(hd:d<20):cP 18 #[pT sb] w λe w'=>e=aH (iI 0)/\cW w F (fk sb N L (d+1) 0) w':=by obtain⟨_,_,_,_,_,_,_,_,b,rfl,_,_,rfl⟩:=h;refine(jX1 b.ss hd).I ?_;rintro e w' ⟨rfl,c,g⟩;rw[b.yl]at c;have:=b.same c b.st.push;rw[cO,jC]at this;exact⟨rfl,this.zero g (λ_ f=>aO f)⟩
theorem jI8(h:fk sb N L d a w F)(hd:20<=d):cP 18 #[pT sb] w λe w'=>e=aH (iI 8)/\cW w F (fk sb N L d a) w':=by have h0:=h;obtain⟨_,_,_,_,_,_,_,_,b,rfl,_,_,rfl⟩:=h;refine(qC5 b.ss hd).I ?_;exact Zki
theorem Zp1(h:fk sb N L (d+1) a w F):cP 19 #[pT sb] w λe w'=>e=aH (iI 0)/\cW w F (fk sb (N.filter (λx=>decide (x.fr<(d:Int)+1))) (L.filter (λx=>decide (x.2<(d:Int)+1))) d 0) w':=by
 obtain⟨_,_,K,_,_,_,_,_,c,hd,_,_,rfl⟩:=h;obtain⟨K,fr,rfl⟩:∃K' fr,K=K'++[fr]:=by have b:K≠[]:=by{intro e;rw[e]at hd;simp at hd};exact⟨K.dropLast,K.getLast b,(List.dropLast_concat_getLast b).symm⟩
 have bM:aA K=d:=by simpa using hd
 subst bM;have f:=c.st.fit (aA K) fr bK;refine(Zb9 c.ss f.n f.t f.a (by rw[c.yl];exact f.f) c.st.ac).I ?_;rintro e w' ⟨rfl,j,i⟩;exact⟨rfl,(c.Zfv j).zero i (λ_ g=>aO g)⟩
theorem Zg3(h:fk sb N L 0 a w F):cP 19 #[pT sb] w λe w'=>e=aH (iI 11)/\cW w F (fk sb N L 0 a) w':=by have h0:=h;obtain⟨_,_,K,_,_,_,_,_,c,b,_,_,rfl⟩:=h;obtain rfl:K=[]:=zK.1 b;refine(qN5 c.ss).I ?_;exact Zki
theorem Zk7(h:fk sb N L d a w F):cP 24 #[pT sb] w λe w'=>e=aH (aL #[iI (aA L),iI d])/\cW w F (fk sb N L d a) w':=by have c:=h;obtain⟨_,_,_,_,_,_,_,_,b,rfl,_,_,rfl⟩:=h;refine(jK6 b.ss).I ?_;rintro e w' ⟨rfl,f⟩;rw[b.yl];exact⟨rfl,(cW.same c).more lq f⟩
theorem Zi6(h:fk sb N L d a w F)(s:ax)(H:s.size<=maxLen)(l:gT w):cP 25 #[pT sb,ai s] w λe w'=>e=aH (aL #[iI (dV N (L.map Prod.fst) s).1,iI (dV N (L.map Prod.fst) s).2.1])/\cW w F (fk sb N (L++mG (dV N (L.map Prod.fst) s).2.2 d) d (if(dV N (L.map Prod.fst) s).2.2=aR then a else 0)) w':=by
 obtain⟨T,A,K,nv,xs,D,Y,M,g,rfl,G,z,rfl⟩:=h;have f:∀{w'},jM w sb nv xs N T A Y K w'/\lL w' sb xs.vd xs.ml->∀{p c:Int}{o:Option Nd},dV N (L.map Prod.fst) s=(p,c,o)->o=aR->cW w (λk=>(SF sb nv xs k\/D k)\/M k) (fk sb N (L++mG (dV N (L.map Prod.fst) s).2.2 (aA K)) (aA K) (if(dV N (L.map Prod.fst) s).2.2=aR then a else 0)) w':=by rintro w' ⟨j,v⟩p c o e rfl;rw[e];simpa[mG]using g.asked G z j v
 by_cases u:600<s.size;refine(jK8 s g.ss u H).I ?_;rintro e w' ⟨rfl,j⟩;exact⟨by rw[qP5 u],f j (qP5 u) rfl⟩;cases i:Y4 N s.toList with|no e p=>(refine(Zc0 s g.ss bH l i).I ?_;rintro e w' ⟨rfl,j⟩;exact⟨by rw[jx5 bH i],f j (jx5 bH i) rfl⟩)|ok nd J=>by_cases m:20<=aA L;refine(jK9 s g.ss bH l i (by rw[g.yl];exact m)).I ?_;rintro e w' ⟨rfl,j⟩;have e:=qP6 (Q:=L.map Prod.fst) bH i (by simpa using m);exact⟨by rw[e],f j e rfl⟩;refine(jL2 s g.ss bH l i (by rw[g.yl];omega)).I ?_;rintro e w' ⟨I,E,r,t,rfl,C,y⟩;have n:=Rf g.ss.ok i;have b:=qP4 g.st bH i n bH r t (r.nd g.ss.p.ts.nd) (t.nd g.ss.p.nd);refine⟨by rw[b],?_⟩;by_cases q:ov (aA I) (aA E)=0;obtain⟨_,j,x,v⟩:=C q;have:=(g.Zfu j x r t n (qt5 g.ss.ok i)).zero v (λk B=>(aO B:(SF sb nv xs k\/D k)\/M k));rw[b];simp only[q,if_true,mG,reduceCtorEq,if_false];exact dC;exact f (y q) b (by rw[bL q])
theorem Zk8(h:fk sb N L d a w F)(y:nF w):cP 17 #[pT sb] w λe w'=>e=aH (.bool (ln (L.map Prod.fst)))/\cW w F (fk sb N L d (if ln (L.map Prod.fst)then 1 else 2)) w':=by obtain⟨T,A,K,nv,xs,D,Y,M,c,rfl,_,_,rfl⟩:=h;refine(jg7 c y.pat).I ?_;rintro e w' ⟨r,vd,ml,rfl,t,m,E,v,o⟩;have n:=c.lt;have j:PL w' sb N L T A K nv {xs with vd:=iI vd,ml:=ml} D Y:=⟨c.ss.lU _ _ m E,c.yl,λi cs p C z=>(c.ft i cs p C z).ext m (λk _ hd e=>(c.dk k hd).2 (aO (aO (aO e)))),c.st,c.fw,λk b=>⟨cC (c.dk k b).1 m.size,(c.dk k b).2⟩⟩;have g:q9 (λk=>(SF sb nv xs k\/D k)\/M k) w w':=m.I (λk _ e=>aO (aO (aO (aO (aO e)))));cases r with|true=>(have e:ln (L.map Prod.fst)=aS:=by{unfold ln;simp[t.1 rfl]};rw[e];obtain⟨rfl,mb,u,rfl,_,x,s⟩:=v rfl;have q:mb<w'.heap.size:=by{obtain⟨_,⟨_,_,hb,_⟩,_⟩:=s;exact j9 hb};refine⟨rfl,g,_,⟨T,A,K,nv,_,D,Y,λk=>k=mb,j,rfl,aP (aO ⟨rfl,rfl,mb,u,rfl,x,s,rfl⟩),λk b=>⟨by rw[b];exact q,λe=>?_⟩,rfl⟩,λk b=>?_⟩;have:=n k e;omega;rcases b with b|b;exact aO (aO b);exact lQ)|false=>have l:¬Sat (L.map Prod.fst):=λB=>by{have:=t.2 B;exact ie};have e:ln (L.map Prod.fst)=aT:=by{unfold ln;simp[l]};rw[e];obtain⟨rfl,rfl⟩:=o rfl;refine⟨rfl,g,_,⟨T,A,K,nv,_,D,Y,λ_=>False,j,rfl,aP (aP ⟨rfl,rfl,l,rfl⟩),λ_ f=>f.elim,rfl⟩,λk b=>?_⟩;rcases b with b|b;exact aO (aO b);exact b.elim
end
def iN(N:a6)(a:Int)(s:ax):Int × Int :=
 if a=1 then
  if 600<s.size then(0,1) else
   match fL N s.toList with
   | .no e p=>(p,e)
   | .ok _ _=>(0,0)
 else(0,12)
section
variable{w w':ao}{rs:Nat}{N:a6}{L:br}{d:Nat}{a:Int}{F:aj}
theorem Zl0{f:Int}(s:ax)(h:oZ w rs N nv lv f)(A:aE w (aD rs 3)=aQ (iI a))(q:0<aA N)(y:s.size<=maxLen):cP 86 #[pT rs,ai s] w λe w'=>e=aH (aL #[iI (iN N a s).1,iI (iN N a s).2])/\eX w w':=by
 obtain⟨_,cap,r,m⟩:=h.shape;obtain⟨g,rfl,b,n⟩:=m q;obtain⟨_,hb⟩:=h.bP;subst r;have c0:=z7 hb 0;have d:=h.cL;have k:=q8 b;clear h hb m b;by_cases o:a=1;{subst o;by_cases yu:600<s.size;{have i:Hid (iN N 1 s=(0,1)):=by{show _=_;rw[iN,bO rfl,bO yu]};delta cP;go_in;go_wp2_with(go_at_call 119;refine(Ol _ s aS _ yu y).I ?_;rintro e w' ⟨rfl,u⟩;rw[u];clear u w');go_ret2;rw[i.o];exact UF};cases hr:fL N s.toList with|no e p=>(have i:Hid (iN N 1 s=((p:Int),e)):=Zjs;have t:=q8 hr;clear hr;delta cP;go_in;go_wp2_with(go_at_call 119;refine(Xr N g cap s _ bH k.o n d).I ?_;rintro x w1 ⟨c,l⟩;rw[t.o]at l;obtain⟨rfl,_⟩:=l;have j:=q8 c;clear c);go_ret2;rw[i.o];exact⟨rfl,j.o⟩)|ok nd z=>have i:Hid (iN N 1 s=(0,0)):=Zjs;have t:=q8 hr;clear hr;delta cP;go_in;go_wp2_with(go_at_call 119;refine(Xr N g cap s _ bH k.o n d).I ?_;rintro x w1 ⟨c,l⟩;rw[t.o]at l;obtain⟨_,rfl,_⟩:=l;have j:=q8 c;clear c);go_ret2;rw[i.o];exact⟨rfl,j.o⟩};have v:(a !=1)=aS:=by simpa using o
 have i:Hid (iN N a s=(0,12)):=by show _=_;rw[iN,bL o]
 clear o;delta cP;go_in;go_wp2_with fail;go_ret2;rw[i.o];exact UF
def fR(rs:Nat)(N:a6)(L:br)(d:Nat)(a:Int)(w:ao)(F:aj):Prop:=Doc rs N L d w F/\aE w (aD rs 3)=aQ (iI a)
theorem mH:mX (fR rs N L d a):=by rintro _ _ _ _ ⟨h,f⟩e b;have c:=(Gp _ _ h).1;exact⟨Mn _ _ _ _ h e b,(e.cell (p:=(aD rs 3)) (Cb _ _ h rs c) (b rs c)).z f⟩
theorem Tq:qX (fR rs N L d a):=λ_ _ h=>Cb _ _ h.1
theorem cW.with{Q:ao->aj->Prop}(h:cW w F Q w')(f:aE w' (aD rs 3)=aQ (iI b)):cW w F (λW a=>Q W a/\aE W (aD rs 3)=aQ (iI b)) w':=by obtain⟨d,a,c,e⟩:=h;exact⟨d,a,⟨c,f⟩,e⟩
theorem fR.di(h:fR rs N L d a w F){c:Prop}[Decidable c](e:Au c w rs w'):aE w' (aD rs 3)=aQ (iI (if c then 0 else a)):=by by_cases b:c;rw[bO b];exact e.1 b;rw[bL b];exact((e.2 b).cell (p:=(aD rs 3)) (Cb _ _ h.1 rs (Gp _ _ h.1).1) id).z h.2
theorem fR.quiet(h:fR rs N L d a w F)(b:eX w w'):aE w' (aD rs 3)=aQ (iI a):=(b.cell (p:=(aD rs 3)) (Cb _ _ h.1 rs (Gp _ _ h.1).1) id).z h.2
theorem Zi7(h:fR rs N L d a w F)(s:ax)(f:s.size<=maxLen)(b:0<aA N):cP 86 #[pT rs,ai s] w λe w'=>e=aH (aL #[iI (iN N a s).1,iI (iN N a s).2])/\eX w w':=by obtain⟨⟨_,_,_,_,c,_,rfl⟩,g⟩:=h;exact Zl0 s c.s g b f
theorem nH.pick{ps:aY}{n:Nat}(h:nH ps U V)(hb:Bl ps n ids)(e:n=aA ps)(a:n<=100):nH (iD ps ids) U V:=by
 have b:∀f∈iD ps ids,f∈ps:=by intro f a;unfold iD at a;obtain⟨i,d,rfl⟩:=dP.1 a;have c:=hb.lt i d;rw[uV,bZ bH];exact G' _
 exact⟨h.uv,λf a=>h.ok f (b f a),λf a=>h.fl f (b f a),by have:=hb.cL;unfold iD;exact xt,λf a=>h.ts f (b f a),λf a=>h.xk f (b f a),h.ar⟩
def sU(X:List Ld)(i:Nat):Nat:=(X[i]?.map (·.b)).getD 0
theorem Zh4{X:List Ld}{j x:Nat}{y:Ld}(h:ids[j]?=aQ x)(a:X[x]?=aQ y):(ids.take (j+1)).map (λi=>kp (sU X i))=(ids.take j).map (λi=>kp (sU X i))++[kp y.b]:=by rw[H8 h,nK];simp[sU,a]
theorem js3{g m cap:Nat}(h:Doc rs N L d w F)(I:nH (L.map Prod.fst) U V)(hb:Bl (L.map Prod.fst) (aA L) ids)(hi:aC w 0 3 1 (az g m cap) m (fZ ids)):cP 87 #[pT rs,az g m cap] w λe w'=>e=aH (ah)/\eX w w':=by
 obtain⟨X,_,_,D,R,he,rfl⟩:=h;have E3:aA L=aA X:=by rw[<-he,fG]
 have K:L.map Prod.fst=dL X:=(To he).symm;rw[K,E3]at hb;rw[K]at I;obtain⟨_,lc,rfl,G⟩:=R.row;obtain⟨_,B⟩:=R.s.bP;have vL:=R.cL;have dn:=j9 B;have hm:=sL hi;have D9:=hb.cL;have hmc:m<=cap:=ZhE;have RI:aA X<=lc:=by rcases R.own.2 with⟨e,O⟩|⟨_,kG,cur,hv,_,_,h1,_⟩;omega;exact zB
 obtain⟨HK,HR,nV,jt,HB,HI⟩:=gq B R G (I.pick hb (by simp[dL]) bH) hb hi;have c1:=z7 B 1;clear R G I hb hi B he K;delta cP;go_in;go_wp2_with fail;go_loopw [5,6](λvv i wr=>∃(j:Nat),j<=m/\i=iI j/\oz w 172 1 vv j ((ids.take j).map (λi=>kp (sU X i))) wr)(λ_ i _=>m-(intOf i).toNat);case atStart=>exact US
 case round=>clear c1;obtain⟨j,_,rfl,a⟩:=hrel;obtain⟨S,vc,rfl⟩:=a.shape;have kb:=(a.1.block _ dn id).z HK;have c1:=z7 kb 1;have n:=q8 a;clear a kb;by_cases ct:j<m;{obtain⟨x,P⟩:∃x,ids[j]?=aQ x:=⟨_,bZ bH⟩;have Y:=HB.lt x (cm P);obtain⟨y,C⟩:∃y,X[x]?=aQ y:=⟨_,bZ Y⟩;obtain⟨gl,rfl,eZ,_,O,_⟩:=nV x y C;rw[<-n.o.1.cell (p:=⟨gl,x*2,aR⟩) eZ id]at O;have A:=j8 HI n.1 (λ_ _ f=>f);have z:=Fk A P;obtain⟨HX,HY⟩:=bM P C;have vA:decide ((x:Int)<0)=aT:=bK;have dd:decide ((aA X:Int)<=(x:Int))=aT:=bQ;have hxn:x<aA X:=Y;have H:decide (aA X<=x)=aT:=bQ;have hjc:j<cap:=bH;have nI:Hid (∀nq,oz w 172 1 (aI S j vc) j ((ids.take j).map (λi=>kp (sU X i))) (wr.drewN nq)):=λnq=>⟨n.1.drewN nq,j8 n.2.1 ((eR wr).drewN nq) (λ_ _ f=>f),n.2.2⟩;obtain⟨j0,gi,u,v,s⟩:=cR xW;cases j with|zero=>(have hjm:(0:Int)<(m:Int):=bH;clear P C A;go_wp2_with fail;go_quiet (fail);obtain⟨W,o⟩:∃W,wr.drewN nq=W:=⟨_,rfl⟩;have d1:aE W (aD rs 1)=aQ (az gl (aA X) lc):=by{rw[<-o];exact c1};have dz:aE W (aD g 0)=aQ (iI x):=by{rw[<-o];exact z};have de:aE W ⟨gl,x*2,aR⟩=aQ (pT y.b):=by{rw[<-o];exact O};have q:=q8 (o▸nI.o nq);rw[o];clear o c1 z O;go_wp2_with fail;go_region_law ((refine step_append_lies _ (by rfl) _ _ _ (by rfl) 0 172 j0 _ 1 8 xE gi u v s rfl bH (aI S (0) vc) (0) ((ids.take (0)).map (λi=>kp (sU X i))) (by rfl) ((q.o.2.1.alloc _).drew) (aD W.heap.size 0) 1 1 [kp y.b] (by rfl) (by rfl) (World.news_of_block (cs:=#[kp y.b]) (t:=172) (fr:=(0,0)) (bR W _)) Zdm bH cN bH (cf _) (W.heap.size+1) bK ?_;intro g3 T w3 b c l rB));all_goals have M:=q8 (Fu q.o (((rr _).alloc _).drew) c b (l.elim (λe=>aO e.symm) (λe=>aP (by rw[e];exact gp))));clear b c l gi u v s d1 dz de;go_wp2_with fail;go_roundw;(case measure=>exact ch);case rel=>refine⟨0+1,bH,bW,?_⟩;rw[Zh4 HX.o HY.o];exact M.o)|succ j=>obtain⟨y2,J⟩:∃y,ids[j]?=aQ y:=⟨_,bZ bH⟩;have z2:=Fk A J;have hyx:y2<x:=by{obtain⟨h1,e1⟩:=ck.1 J;obtain⟨h2,e2⟩:=ck.1 P;rw[<-e1,<-e2];exact CA.1 HB.o.up j (j+1) h1 h2 bH};have bV:decide ((x:Int)<=(y2:Int))=aT:=bQ;have cK:decide (x<=y2)=aT:=bQ;have hjm:(j:Int)+1<(m:Int):=bH;have Zps:(0:Int)<(j:Int)+1:=bH;have Zpt:(j:Int)<(m:Int):=bH;have hwk:IntKind.i64.wrap ((j:Int)+1-1)=(j:Int):=Uj;have Zpu:(j:Int)+1-1=(j:Int):=bH;have Zpv:IntKind.i64.wrap (j:Int)=(j:Int):=Uj;have IU:(0:Int)<=(j:Int)+1:=bH;clear P C J A;go_wp2_with fail;go_quiet (fail);obtain⟨W,o⟩:∃W,wr.drewN nq=W:=⟨_,rfl⟩;have d1:aE W (aD rs 1)=aQ (az gl (aA X) lc):=by{rw[<-o];exact c1};have dz:aE W ⟨g,j+1,aR⟩=aQ (iI x):=by{rw[<-o];exact z};have de:aE W ⟨gl,x*2,aR⟩=aQ (pT y.b):=by{rw[<-o];exact O};have q:=q8 (o▸nI.o nq);rw[o];clear o c1 z O;go_wp2_with fail;go_region_law ((refine step_append_lies _ (by rfl) _ _ _ (by rfl) 0 172 j0 _ 1 8 xE gi u v s rfl bH (aI S (j+1) vc) (j+1) ((ids.take (j+1)).map (λi=>kp (sU X i))) (by rfl) ((q.o.2.1.alloc _).drew) (aD W.heap.size 0) 1 1 [kp y.b] (by rfl) (by rfl) (World.news_of_block (cs:=#[kp y.b]) (t:=172) (fr:=(0,0)) (bR W _)) Zdm bH cN bH (cf _) (W.heap.size+1) bK ?_;intro g3 T w3 b c l rB));all_goals have M:=q8 (Fu q.o (((rr _).alloc _).drew) c b (l.elim (λe=>aO e.symm) (λe=>aP (by rw[e];exact gp))));clear b c l gi u v s d1 dz de;go_wp2_with fail;go_roundw;(case measure=>exact ch);case rel=>refine⟨j+1+1,bH,bW,?_⟩;rw[Zh4 HX.o HY.o];exact M.o};obtain rfl:j=m:=bH;have a:=n.o;rw[cZ bH]at a;have Z:NR wr (λk=>D k\/aB (Value.slice S j vc)=aQ k) (aI S j vc) (iD (dL X) ids):=by{have mf:aA (iD (dL X) ids)=j:=by{unfold iD;exact xt};refine⟨ids.map (sU X),by unfold iD;simp,?_,λi _ _ hc Q=>?_⟩;have h1:=a.2.1;rw[mf];simpa[List.map_map,Function.comp_def]using h1;unfold iD at Q;simp only[dN]at hc Q;obtain⟨t,ht,rfl⟩:=Cx.1 hc;rw[ht]at Q;simp only[GZ,xF]at Q;have mU:=HB.lt t (cm ht);obtain⟨y,C⟩:∃y,X[t]?=aQ y:=⟨_,bZ mU⟩;have e1:sU X t=y.b:=by{simp[sU,C]};have e2:(dL X).getD t Mo=y.nd:=by{rw[uV,dL,dN,C];rfl};rw[e2]at Q;rw[e1,<-Q];exact((HR.rn y (cm C)).ext a.1 (λ_ _ _ f=>f)).I (λk _ hk=>aO hk)};have r:=q8 (jO7 jZ0 jt Z (λk hk=>aP hk) (λk hk=>by rcases hk with hk|hk;exact cC (HR.jy k hk) a.1.size;exact(a.2.1.lt k hk).2));have RG:=q8 a.1;have E:ln (iD (dL X) ids)=aT:=by{unfold ln;simp[HB.o.no]};rw[E]at r;clear a Z n c1 E;go_wp2_with fail;refine r.I ?_;rintro e _ ⟨rfl,H⟩;have bT:=q8 (RG.z H);clear H;go_wp2_with fail;go_ret;exact⟨rfl,bT⟩
end
section
variable{P:Program}
theorem jq6(w:ao)(t J e:TypeId)(i:TypeInfo)(z:au)(bytes:Nat)(L:P.underlying t=aQ (.slice e))(N:P.info? e=aQ i)(O:i.zero=aQ z)(b:i.size=1)(G:i.bytes=bytes)(K:z.cells.size=1)(g n cap:Nat)(xs:ak)(d:aC w 0 e 1 (az g n cap) n xs)(a:Addr)(c:Nat)(u:au)(p:aE w (a.add 0)=aQ u)(h1:u.oneCell'=aS)(y:n+1<=maxLen)(m:(n+1)*bytes<=140737488355328):∃x h w',(Builtin.append_ #[t,t] J #[az g n cap,.slice (aQ a) 1 c]).run P w=.ok (az x (n+1) h) w'/\aC w' 0 e 1 (az x (n+1) h) (n+1) (xs++[u])/\((x=g/\q9 (λk=>k=g) w w')\/(x=w.heap.size/\eX w w')):=by
 have B:n+1<=9223372036854775807:=by simp only[maxLen]at y;omega
 have f:aA (xs++[u])=(n+1)*1:=by have:=d.1;simp at this⊢;omega
 have r:∀j v,[u][j]?=aQ v->aE w (a.add j)=aQ v:=by intro j v C;match j,C with|0,C=>simp at C;subst C;exact p
 rcases d.2 with⟨Q,_⟩|⟨x,h,A,R,_,M,_,E,I,q⟩;cases Q;cases R;by_cases l:n+1<=cap;have H:=run_append_room (P:=P) w t J e i L N g n cap A M a 1 c [u] (by simp[b]) r uK l (by rw[b,I];exact bQ);refine⟨g,cap,_,H,⟨f,aP ⟨g,cap,_,rfl,cf _,setRow_heap w g A _ e _ M,l,E,?_,?_⟩⟩,aO ⟨rfl,⟨rfl,rfl,rfl,bK,λk _ F=>setRow_other w g k _ (λe=>F e)⟩⟩⟩;rw[b];simp only[xJ,cO,eF,List.length_drop,Array.length_toList];exact bQ;rw[b,q,<-f];exact List.take_left;have o:∀j v,xs[j]?=aQ v->aE w (((aD g 0):Addr).add j)=aQ v:=d.cells (g:=g) rfl;have H:=run_append_grow (P:=P) w t J e i z L N O (aD g 0) n cap xs (by rw[b];exact d.1) o a 1 c [u] (by simp[b]) r bH bH (growslice_fits bH (by rw[G];exact m));have D:=grownCap_ge w (n+1) cap e;have s:grownCap w (n+1) cap e<=maxLen:=grownCap_le_maxLen w (n+1) cap e y;refine⟨w.heap.size,_,_,H,⟨f,aP ⟨w.heap.size,_,_,rfl,cf _,bR w.drew _,D,s,?_,?_⟩⟩,aP ⟨rfl,⟨rfl,rfl,rfl,bK,λk F _=>cU w.drew _ F⟩⟩⟩;have:=d.1;simp only[Array.size_append,xJ,size_zeroCells,K];simp at this⊢;omega;simp only[Array.toList_append,oJ];rw[<-oJ,<-f];exact List.take_left
end
structure KL where
 g:Nat
 n:Nat
 c:Nat
 mark:Int
def KL.v(e:KL):au:=aI (sA e.g) e.n e.c
def Cd(w:ao)(e:KL):Prop:=e.g<w.heap.size/\e.n<=24/\∀ i,i<e.n->aE w (aD e.g i)=aQ (iI e.mark)
structure qC(w:World)(bb:Nat)(lv mv:Value)(q:Nat)(E:List KL):Prop where
 bP:w.heap[bb]?=aQ (aG #[lv,mv,iI q] 64)
 ls:aC w 0 25 1 lv (aA E) (E.map KL.v)
 ms:aC w 0 3 1 mv (aA E) (E.map fun e=>iI e.mark)
 rd:∀ e∈E,Cd w e
 sb:∀ e∈E,¬e.g=bb/\¬aB lv=aQ e.g/\¬aB mv=aQ e.g
def BF(bb:Nat)(lv mv:au)(E:List KL)(k:Nat):Prop:=k=bb\/aB lv=aQ k\/aB mv=aQ k\/∃ e∈E,k=e.g
def Bk(m bb:Nat)(w:ao)(F:aj):Prop:=∃ lv mv q E,qC w bb lv mv q E/\aA E<=8*m/\q<=2*m/\F=BF bb lv mv E
theorem Zl1{bb:Nat}{mv:au}{q:Nat}{E:List KL}(h:qC w bb lv mv q E)(Q:aA E<=100000000):cP 35 #[pT bb] w λe w'=>e=aH (ah)/\eX w w':=by
 obtain⟨M,_,rfl⟩:=Z3 h.ls;obtain⟨J,_,rfl⟩:=Z3 h.ms;have r:=h.bP;obtain⟨c0,c1⟩:=db r 0 1;have H:=q8 h;clear h r;delta cP;go_in;go_wp2_with fail;go_loopw [3,4](λi _ wr=>∃j:Nat,j<=aA E/\i=iI j/\eX w wr)(λi _ _=>aA E-(intOf i).toNat);case atStart=>exact Zde
 case round=>clear c0 c1;obtain⟨j,_,rfl,c⟩:=hrel;obtain⟨b,rfl⟩:∃b,b=wr:=⟨_,rfl⟩;have r:=c.K H.bP;obtain⟨c0,c1⟩:=db r 0 1;have HX:=q8 c;clear r;by_cases t:j<aA E;{obtain⟨e,he⟩:∃e,E[j]?=aQ e:=⟨_,bZ t⟩;obtain⟨gl,A,y⟩:∃gl,M=aQ (aD gl 0)/\aE b (aD gl j)=aQ (aI (sA e.g) e.n e.c):=by{have ho:=j8 H.ls c (λ_ _ f=>f);exact Zls};obtain⟨d,B,v⟩:∃d,J=aQ (aD d 0)/\aE b (aD d j)=aQ (iI e.mark):=by{have ho:=j8 H.ms c (λ_ _ f=>f);exact Zls};subst A B;have n:gl<b.heap.size:=((j8 H.ls c (λ_ _ f=>f)).lt gl rfl).2;have l:d<b.heap.size:=((j8 H.ms c (λ_ _ f=>f)).lt d rfl).2;have o:bb<b.heap.size:=cC (j9 H.bP) c.size;obtain⟨D,_,C⟩:=H.rd e (cm he);have x:Hid (∀W,eX b W->∀i,i<e.n->aE W (aD e.g i)=aQ (iI e.mark)):=λW G i O=>((c.z G).cell (p:=(aD e.g i)) D id).z (C i O);have P:e.n<=9223372036854775807:=bH;clear c C he;go_wp2_with fail;obtain⟨L,I,K,N⟩:=cK y v c0 c1;clear y v c0 c1;go_loopw [4](λi F=>∃k:Nat,k<=e.n/\i=iI k/\eX b F)(λi _=>e.n-(intOf i).toNat);(case atStart=>exact Zde);case round=>obtain⟨k,_,rfl,a⟩:=hrel;have c0:=(a.cell (p:=(aD bb 0)) o id).z K;have c1:=(a.cell (p:=(aD bb 1)) o id).z N;have y:=(a.cell (p:=(aD gl j)) n id).z L;have v:=(a.cell (p:=(aD d j)) l id).z I;by_cases s:k<e.n;{have z:=x wr a k s;have m:=q8 a;have u:Hid (eX b wr.drew):=a.drew;clear a;go_wp2_with fail;go_region;all_goals go_wp2_with fail;go_roundw;(case measure=>exact ch);case rel=>exact⟨k+1,bH,bW,u⟩};have m:=q8 (HX.z a);clear a;go_wp2_with fail;exact⟨⟨j+1,bH,bW,m⟩,ch⟩};go_wp2_with fail;go_ret;exact⟨rfl,HX⟩
theorem Cd.ext{w':ao}{e:KL}(h:Cd w e)(a:q9 S w w')(b:¬S e.g):Cd w' e:=⟨cC h.1 a.size,h.2.1,λi c=>(a.cell (p:=(aD e.g i)) h.1 b).z (h.2.2 i c)⟩
structure KJ(w0:World)(F0:Nat->Prop)(bb:Nat)(lv mv:Value)(q1:Nat)(El Em:List KL)(g n c:Nat)(wr:World):Prop where
 ext:q9 F0 w0 wr
 bP:wr.heap[bb]?=aQ (aG #[lv,mv,iI q1] 64)
 ls:aC wr 0 25 1 lv (aA El) (El.map KL.v)
 ms:aC wr 0 3 1 mv (aA Em) (Em.map fun e=>iI e.mark)
 rd:∀ e∈El,Cd wr e
 sb:∀ e∈El,¬e.g=bb/\¬aB lv=aQ e.g/\¬aB mv=aQ e.g
 own:aC wr 0 3 1 (aI (sA g) n c) n (List.replicate n (iI (-(q1:Int))))
 gs:¬aB mv=aQ g
 pre:∀ e∈El,e.g=g->e.n<=n/\e.mark = -(q1:Int)
 fb:∀ k,(k=bb\/aB lv=aQ k\/aB mv=aQ k\/(∃ e∈El,k=e.g)\/k=g)->F0 k\/w0.heap.size<=k
section
variable{w0 wr W w1:ao}{F0:aj}{bb g n c:Nat}{lv mv fY sV:au}{q1:Nat}{El Em:List KL}
theorem KJ.Tr(h:KJ w0 F0 bb lv mv q1 El Em g n c wr):g<wr.heap.size:=(h.own.lt g rfl).2
theorem KJ.gb(h:KJ w0 F0 bb lv mv q1 El Em g n c wr):¬g=bb:=λe=>K8 h.own h.bP bJ (by rw[<-e];rfl)
theorem KJ.gl(h:KJ w0 F0 bb lv mv q1 El Em g n c wr):¬aB lv=aQ g:=λe=>sS h.ls h.own bJ e rfl
theorem KJ.lb(h:KJ w0 F0 bb lv mv q1 El Em g n c wr):¬aB lv=aQ bb:=K8 h.ls h.bP bJ
theorem KJ.mb(h:KJ w0 F0 bb lv mv q1 El Em g n c wr):¬aB mv=aQ bb:=K8 h.ms h.bP bJ
theorem KJ.lm(h:KJ w0 F0 bb lv mv q1 El Em g n c wr):∀k,aB lv=aQ k->¬aB mv=aQ k:=λ_ e=>sS h.ls h.ms bJ e
def rG(g n c q1:Nat):KL:=⟨g,n,c,-(q1:Int)⟩
theorem KJ.reads(h:KJ w0 F0 bb lv mv q1 El Em g n c wr)(d:n<=24):Cd wr (rG g n c q1):=by refine⟨h.Tr,d,λi b=>?_⟩;have a:i<n:=b;show aE wr (aD g i)=_;rw[h.own.cellAt i bH,zE,bO a];rfl
theorem KJ.list(h:KJ w0 F0 bb lv mv q1 El Em g n c wr)(q:n<=24)(j:q9 (λk=>k=bb\/aB lv=aQ k) wr W)(hb:W.heap[bb]?=ad #[fY,mv,iI q1] 64)(hl:aC W 0 25 1 fY (aA El+1) (El.map KL.v++[KL.v (rG g n c q1)]))(i:∀k,aB fY=aQ k->aB lv=aQ k\/wr.heap.size<=k):KJ w0 F0 bb fY mv q1 (El++[rG g n c q1]) Em g n c W:=by have r:=h.ext.size;have l:=λk=>h.fb k;have m:aC W 0 3 1 (az g n c) n (List.replicate n (iI (-(q1:Int)))):=j8 h.own j (λk b e=>by simp[Value.ownBlock]at b;subst b;exact e.elim h.gb h.gl);have d:∀k,k<wr.heap.size->¬aB lv=aQ k->¬aB fY=aQ k:=λk b o e=>(i k e).elim o (λe=>bH);refine⟨h.ext.z' j (λk b e=>?_),hb,UE,j8 h.ms j (λk b e=>e.elim (λe=>h.mb (e▸b)) (λe=>h.lm k e b)),λe a=>?_,λe a=>?_,m,h.gs,λe a p=>?_,λk b=>?_⟩;rcases h.fb k (e.imp id aO)with e|e;exact e;omega;rcases da.1 a with a|a;exact(h.rd e a).ext j (λf=>f.elim (h.sb e a).1 (h.sb e a).2.1);simp at a;subst a;exact(h.reads q).ext j (λf=>f.elim h.gb h.gl);rcases da.1 a with a|a;exact⟨(h.sb e a).1,d _ (h.rd e a).1 (h.sb e a).2.1,(h.sb e a).2.2⟩;simp at a;subst a;exact⟨h.gb,d _ h.Tr h.gl,h.gs⟩;rcases da.1 a with a|a;exact h.pre e a p;simp at a;subst a;exact⟨cj _,rfl⟩;rcases b with e|e|e|⟨e,a,rfl⟩|e;exact UP;rcases i k e with e|e;exact UA;exact lQ;exact Un;rcases da.1 a with a|a;exact h.fb _ (aP (aP (aP (aO ⟨e,a,rfl⟩))));simp at a;subst a;exact h.fb _ (aP (aP (aP (aP rfl))));exact h.fb k (aP (aP (aP (aP e))))
theorem KJ.marks(h:KJ w0 F0 bb lv mv q1 El Em g n c wr)(j:q9 (λk=>k=bb\/aB mv=aQ k) wr W)(hb:W.heap[bb]?=ad #[lv,sV,iI q1] 64)(l:aC W 0 3 1 sV (aA Em+1) ((Em.map λe=>iI e.mark)++[iI (-(q1:Int))]))(i:∀k,aB sV=aQ k->aB mv=aQ k\/wr.heap.size<=k):KJ w0 F0 bb lv sV q1 El (Em++[rG g n c q1]) g n c W:=by have o:=h.ext.size;have d:∀k,k<wr.heap.size->¬aB mv=aQ k->¬aB sV=aQ k:=λk a m e=>(i k e).elim m (λe=>bH);refine⟨h.ext.z' j (λk a e=>?_),hb,j8 h.ls j (λk a e=>e.elim (λe=>h.lb (e▸a)) (λe=>h.lm k a e)),by simpa[rG]using l,λe b=>(h.rd e b).ext j (λf=>f.elim (h.sb e b).1 (h.sb e b).2.2),λe b=>⟨(h.sb e b).1,(h.sb e b).2.1,d _ (h.rd e b).1 (h.sb e b).2.2⟩,j8 h.own j (λk a e=>by simp[Value.ownBlock]at a;subst a;exact e.elim h.gb h.gs),d _ h.Tr h.gs,h.pre,λk a=>?_⟩;rcases h.fb k (e.imp id (λe=>aP (aO e)))with e|e;exact e;omega;rcases a with e|e|e|e|e;exact UP;exact UA;rcases i k e with e|e;exact Un;exact lQ;exact Zdf;exact h.fb k (aP (aP (aP (aP e))))
theorem KJ.quiet(h:KJ w0 F0 bb lv mv q1 El Em g n c wr)(a:eX wr W):KJ w0 F0 bb lv mv q1 El Em g n c W:=⟨h.ext.z' a (λ_ _ f=>f.elim),a.K h.bP,j8 h.ls a (λ_ _ f=>f),j8 h.ms a (λ_ _ f=>f),λe b=>(h.rd e b).ext a id,h.sb,j8 h.own a (λ_ _ f=>f),h.gs,h.pre,h.fb⟩
theorem KJ.tail{l m:Nat}(h:KJ w0 F0 bb lv mv q1 El Em g n c wr)(s:aC W 0 3 1 (az l (n+1) m) (n+1) (List.replicate n (iI (-(q1:Int)))++[iI (-(q1:Int))]))(o:(l=g/\q9 (λk=>k=g) wr W)\/(l=wr.heap.size/\eX wr W)):KJ w0 F0 bb lv mv q1 El Em l (n+1) m W:=by
 have t:=h.ext.size;have d:aC W 0 3 1 (az l (n+1) m) (n+1) (List.replicate (n+1) (iI (-(q1:Int)))):=by rw[List.replicate_succ'];exact s
 rcases o with⟨rfl,a⟩|⟨rfl,a⟩;refine⟨h.ext.z' a (λk j e=>?_),(a.block _ (j9 h.bP) (λe=>h.gb e.symm)).z h.bP,j8 h.ls a (λk j e=>h.gl (by rw[<-e];exact j)),j8 h.ms a (λk j e=>h.gs (by rw[<-e];exact j)),λe b=>?_,h.sb,d,h.gs,λe b q=>⟨by have:=(h.pre e b q).1;omega,(h.pre e b q).2⟩,h.fb⟩;rcases h.fb k (aP (aP (aP (aP e))))with e|e;exact e;omega;by_cases p:e.g=l;obtain⟨_,r⟩:=h.pre e b p;refine⟨cC (h.rd e b).1 a.size,(h.rd e b).2.1,λi _=>?_⟩;rw[p,r,d.cellAt i bH,zE,bO bH];exact(h.rd e b).ext a p;refine⟨h.ext.z' a (λ_ _ f=>f.elim),a.K h.bP,j8 h.ls a (λ_ _ f=>f),j8 h.ms a (λ_ _ f=>f),λe b=>(h.rd e b).ext a id,h.sb,d,λe=>?_,λe b q=>?_,λk j=>?_⟩;have:=(h.ms.lt _ e).2;omega;have:=(h.rd e b).1;omega;rcases j with e|e|e|e|e;exact UP;exact UA;exact Un;exact Zdf;exact lQ
end
theorem Zq5:(prog.info? 25).map (λi=>(i.zero,i.size,i.bytes))=aQ (aQ (ae),1,24):=bS
theorem qs3{p:Array Oper}{rest:List Oper}{o:Oper}{a:Act}{Q:Exit->Act->ao->Prop}{P:Program}(q:o.guard=aR)(s x:Operand)(t:TypeId)(G:o.op=.call {callee:=.builtin .append,args:=#[s,x],argTypes:=#[t,t]})(e:TypeId)(i:TypeInfo)(z:au)(bytes:Nat)(C:P.underlying t=aQ (.slice e))(K:P.info? e=aQ i)(F:i.zero=aQ z)(f:i.size=1)(y:i.bytes=bytes)(A:z.cells.size=1)(g n cap:Nat)(xs:ak)(J:a.eval s=az g n cap)(m:aC w 0 e 1 (az g n cap) n xs)(v:Addr)(c:Nat)(u:au)(L:a.eval x=.slice (aQ v) 1 c)(j:aE w (v.add 0)=aQ u)(D:u.oneCell'=aS)(r:n+1<=maxLen)(d:(n+1)*bytes<=140737488355328)(h:∀l b w',aC w' 0 e 1 (az l (n+1) b) (n+1) (xs++[u])->((l=g/\q9 (λk=>k=g) w w')\/(l=w.heap.size/\eX w w'))->wpList P p Q rest (a.put o.dst (az l (n+1) b)) w'):wpList P p Q (o::rest) a w:=by refine wpList_plain q λ_ E=>?_;obtain⟨l,b,w',H,B,I⟩:=jq6 (P:=P) w t o.type e i z bytes C K F f y A g n cap xs m v c u j D r d;unfold Oper.wp execOp;simp only[G,resolve,invoke,builtin,Sem.run_bind,Sem.run_pure,Result.andThen_ok,List.map_toArray,List.map_cons,List.map_nil,J,L,H];exact E _ _ (h l b w' B I)
structure KW(w:World)(bb g n c:Nat)(lv mv:Value)(q1 j:Nat)(wr:World):Prop where
 ext:q9 (fun k=>k=bb\/k=g) w wr
 bP:wr.heap[bb]?=aQ (aG #[lv,mv,iI q1] 64)
 row:∃ cur:Array Value,wr.heap[g]?=aQ (aG cur 3 (0,0))/\cur.size=c/\n<=c/\c<=maxLen/\∀ i,i<j->cur[i]?=aQ (iI (-(q1:Int)))
section
variable{w wr:ao}{bb g n c:Nat}{lv mv:au}{q q1 j:Nat}{E:List KL}
theorem KW.next(h:KW w bb g n c lv mv q1 j wr)(o:j<n)(a:¬g=bb):KW w bb g n c lv mv q1 (j+1) (wr.setCell (aD g j) (iI (-(q1:Int)))):=by obtain⟨b,f,h2,m,d,l⟩:=h.row;refine⟨h.ext.setCell (p:=(aD g j)) (λ_=>aP rfl) _,?_,_,X6 f j _,xD,m,d,λi q=>?_⟩;exact((q9.refl (λk=>k=g) wr).sc g j _).block bb (j9 h.bP) (λe=>a e.symm)|>.trans h.bP;rw[MY];split;rename_i e;rw[bO bH];exact l i bH
theorem KW.done(h:KW w bb g n c lv mv q1 n wr)(d:qC w bb lv mv q E)(l:¬BF bb lv mv E g):KJ w (λk=>BF bb lv mv E k\/k=g) bb lv mv q1 E E g n c wr:=by
 obtain⟨o,x,_,z,v,y⟩:=h.row;have u:¬aB lv=aQ bb:=K8 d.ls d.bP bJ;have s:¬aB mv=aQ bb:=K8 d.ms d.bP bJ;have f:∀k,¬k=bb->¬k=g->¬(k=bb\/k=g):=λk a b e=>e.elim a b;have m:(o.toList.take (n*1))=List.replicate n (iI (-(q1:Int))):=by apply zH;intro i;by_cases t:i<n;rw[pR,bO bH,xH,y i t,zE,bO t];rw[pR,bL bH,zE,bL t]
 refine⟨h.ext.I (λk _ e=>e.imp aO id),h.bP,j8 d.ls h.ext (λk j=>f k (λe=>u (e▸j)) (λe=>l (aP (aO (e▸j))))),j8 d.ms h.ext (λk j=>f k (λe=>s (e▸j)) (λe=>l (aP (aP (aO (e▸j)))))),λe p=>(d.rd e p).ext h.ext (f _ (d.sb e p).1 (λr=>l (aP (aP (aP ⟨e,p,r.symm⟩))))),d.sb,⟨bK,aP ⟨g,c,o,rfl,cf _,x,z,v,bH,m⟩⟩,λe=>l (aP (aP (aO e))),λe p r=>absurd (aP (aP (aP ⟨e,p,r.symm⟩))) l,λk j=>?_⟩;rcases j with e|e|e|e|e;exact aO (aO (aO e));exact aO (aO (aP (aO e)));exact aO (aO (aP (aP (aO e))));exact aO (aO (aP (aP (aP e))));exact aO (aP e)
theorem Zh5{cs:ak}(hB:qC w bb lv mv q E)(hE:aA E<=100000000)(hq:q<=1000000000)(ho:aC w 0 3 1 (az g n c) n cs)(hn:n<=20)(hg:¬BF bb lv mv E g):cP 88 #[pT bb,az g n c] w λe w'=>e=aH (.tuple #[])/\∃fY sV a m n' v,KJ w (λk=>BF bb lv mv E k\/k=g) bb fY sV (q+1) a a m n' v w'/\aA a=aA E+4:=by
 obtain⟨q1,wC⟩:∃q1,q+1=q1:=⟨_,rfl⟩;rw[wC];have hqb:q1<=1000000001:=bH;have oC:¬g=bb:=λe=>hg (aO e);have kb:=hB.bP;obtain⟨c2,f2⟩:=dX kb 2 2;have eq1:(q:Int)+1=(q1:Int):=bH;have HK0:Hid (KW w bb g n c lv mv q1 0 (w.setCell (aD bb 2) (iI ((q:Int)+1)))):=by have hx:q9 (λk=>k=bb) w (w.setCell (aD bb 2) (iI ((q:Int)+1))):=(q9.refl (λk=>k=bb) w).sc bb 2 _;rcases ho.2 with⟨e,_⟩|⟨m,_,J,hv,_,hh,h1,h2,_,_⟩;cases e;cases hv;exact⟨hx.I (λ_ _ e=>aO e),eq1▸X6 kb 2 _,J,(hx.block _ (j9 hh) oC).z hh,bH,h1,h2,λi hi=>bH⟩
 obtain⟨HB,HG⟩:=bM hB hg;clear hB hg ho kb eq1 wC;delta cP;go_in;go_wp2_with fail;clear c2 f2;go_loopw [4](λi wr=>∃j:Nat,j<=n/\i=iI j/\KW w bb g n c lv mv q1 j wr)(λi _=>n-(intOf i).toNat);case atStart=>exact⟨0,cf _,rfl,HK0⟩
 case round=>clear HK0;obtain⟨j,_,rfl,hK⟩:=hrel;have HK:=q8 hK;obtain⟨J,r1,_,_,_,_⟩:=hK.row;have c2:=z7 hK.bP 2;clear hK;by_cases ct:j<n;{have d:=z7 r1 j;have fd:=Q9 r1 j;rw[CJ bH]at d;obtain⟨u,hu⟩:∃u,J[j]=u:=⟨_,rfl⟩;rw[hu]at d;have HN:=q8 (HK.next ct oC);clear r1 hu;go_wp2_with fail;go_roundw;(case measure=>exact ch);case rel=>exact⟨j+1,bH,bW,HN⟩};have R:j=n:=bH;rw[R]at HK;have D:=q8 (HK.done HB HG);clear r1 HK R c2;go_wp2_with fail;go_loopw [1,5,6](λl i _ wq=>∃(r m v:Nat)(fY sV:au)(a:List KL),r<=4/\i=iI r/\l=az m (n+r) v/\aA a=aA E+r/\KJ w (λk=>BF bb lv mv E k\/k=g) bb fY sV q1 a a m (n+r) v wq)(λ_ i _ _=>4-(intOf i).toNat);(case atStart=>exact⟨0,g,c,lv,mv,E,cf _,rfl,rfl,rfl,D⟩);case round=>clear D;obtain⟨r,m,v,fY,sV,a,_,rfl,rfl,Gc,P⟩:=hrel;obtain⟨la,lc,rfl⟩:=Z3 P.ls;obtain⟨ma,mc,rfl⟩:=Z3 P.ms;have c0:=z7 P.bP 0;have dK:=j9 P.bP;have D:=q8 P;have hEn:aA a<=100000004:=bH;have W:=q8 Gc;clear P Gc;by_cases yf:r<4;{obtain⟨i0,hi,V,cz,Z⟩:=cR Zq5;obtain⟨k0,ki,N,K,O⟩:=cR Zi0;go_wp2_with(at_builtin;refine gQ _ rfl _ _ 62 rfl 0 25 i0 (ae) 1 24 underlying62 hi V cz Z rfl bJ _ _ _ rfl (D.ls.alloc _) (aD wr.heap.size 0) 1 1 [KL.v (rG m (n+r) v q1)] rfl rfl ? c1 ? c2 ? c3 ? c4 ? c5 ?_);(case c1=>exact World.news_of_block (cs:=#[KL.v (rG m (n+r) v q1)]) (t:=25) (fr:=(0,0)) (bR wr _));(case c2=>exact uH);(case c3=>exact cN);(case c4=>omega);(case c5=>omega);intro _ wa f s _ cu;obtain⟨U,vc,rfl⟩:=Z3 f;have G:=(s.block bb bQ (λe=>D.lb e.symm)).z ((cU wr _ dK).z D.bP);obtain⟨d0,fd0⟩:=dX G 0 0;have Y:q9 (λk=>k=bb\/aB (Value.slice la (aA a) lc)=aQ k) wr (wa.setCell (aD bb 0) (.slice U (aA a+1) vc)):=((((eR wr).alloc _).M).grown s (λk hk _=>.inr hk)).setCell (p:=(aD bb 0)) (λ_=>.inl rfl) _;have B:¬aB (Value.slice U (aA a+1) vc)=aQ bb:=K8 f G bJ;obtain⟨F,X⟩:∃F,wa.setCell (aD bb 0) (.slice U (aA a+1) vc)=F:=⟨_,rfl⟩;have x:Hid (KJ w (λk=>BF bb lv mv E k\/k=g) bb (.slice U (aA a+1) vc) (.slice ma (aA a) mc) q1 (a++[rG m (n+r) v q1]) a m (n+r) v F):=by{rw[<-X];refine D.list bH Y (X6 G 0 _) (j8 f ((q9.refl (λk=>k=bb) wa).sc bb 0 _) (λk hk e=>B (e▸hk))) (λk hk=>?_);rcases cu with e|e;exact aO (e▸hk);rw[e]at hk;simp at hk;exact lQ};clear f s cu Y B hi V cz Z c0 D G;go_wp2_with fail;clear X d0 fd0;obtain⟨c1,c2⟩:=db x.bP 1 2;have qf:=j9 x.bP;have Tl:IntKind.i64.wrap (-(q1:Int))= -(q1:Int):=Uj;go_region_law ((refine step_append_lies _ (by rfl) _ _ _ (by rfl) 0 3 k0 _ 1 8 uX ki N K O rfl bH (.slice ma (aA a) mc) (aA a) (a.map λe=>iI e.mark) (by rfl) ((x.ms.alloc _).drew) (aD F.heap.size 0) 1 1 [iI (-(q1:Int))] (by rfl) (by rfl) (World.news_of_block (cs:=#[iI (-(q1:Int))]) (t:=3) (fr:=(0,0)) (bR F _)) rI bH cN bH (cf _) (F.heap.size+1) bK ?_;intro g3 y w3 o b I rB;have z:=(b.block bb bQ (λe=>x.mb e.symm)).z ((cU F _ qf).z x.bP);have d1:=z7 z 1;have fd1:=Q9 z 1));all_goals have B:¬aB (Value.slice (sA g3) (aA a+1) y)=aQ bb:=K8 o z bJ;have T:q9 (λk=>k=bb\/aB (Value.slice ma (aA a) mc)=aQ k) F (w3.setCell (aD bb 1) (az g3 (aA a+1) y)):=(((((eR F).alloc _).drew).M).grown b (λk hk _=>.inr hk)).setCell (p:=(aD bb 1)) (λ_=>.inl rfl) _;obtain⟨Q,L⟩:∃Q,w3.setCell (aD bb 1) (az g3 (aA a+1) y)=Q:=⟨_,rfl⟩;have C:Hid (KJ w (λk=>BF bb lv mv E k\/k=g) bb (.slice U (aA a+1) vc) (az g3 (aA a+1) y) q1 (a++[rG m (n+r) v q1]) (a++[rG m (n+r) v q1]) m (n+r) v Q):=by{rw[<-L];refine x.marks T (X6 z 1 _) (j8 o ((q9.refl (λk=>k=bb) w3).sc bb 1 _) (λk hk e=>B (e▸hk))) (λk hk=>?_);have wH:g3=k:=ZkJ;rcases I with e|e;exact aO (wH▸e);exact lQ};clear o b I T B z x c1 c2 d1 fd1 rB;rw[L];clear L;have c2:=z7 C.bP 2;go_wp2_with(at_builtin;refine qs3 rfl _ _ 25 rfl 3 k0 (iI 0) 8 uX ki N K O rfl m (n+r) v (List.replicate (n+r) (iI (-(q1:Int)))) rfl (C.own.alloc _) (aD Q.heap.size 0) 1 (iI (-(q1:Int))) rfl ? d1 rfl ? d2 ? d3 ?_);(case d1=>exact World.news_of_block (cs:=#[iI (-(q1:Int))]) (t:=3) (fr:=(0,0)) (bR Q _) 0 _ rfl);(case d2=>exact cN);(case d3=>omega);intro g4 c4 _ A H;have pg:=q8 (KJ.tail (C.quiet ((rr Q).alloc (aG #[iI (-(q1:Int))] 3))) A (H.imp id (λh=>⟨by rw[h.1];simp,h.2⟩)));clear A H C c2 ki N K O;go_wp2_with fail;go_roundw;(case measure=>exact ch);case rel=>exact⟨r+1,g4,c4,_,_,a++[rG m (n+r) v q1],bH,bW,rfl,by rw[cO,W.o];rfl,pg⟩};have S:r=4:=bH;subst S;go_wp2_with fail;go_end0;exact⟨rfl,_,_,a,m,_,v,D,W⟩
end
theorem Zl2{T A:aY}{u:Nat->Int}(h:gn T A)(hT:aA T<=12)(hV:(gC (keys T) (dw T A)).V u){t:Nd}(b:Y2 t):-1000000<=ff (gO T u) t/\ff (gO T u) t<=1000000:=by have c:=h.uh;obtain⟨g,j,_⟩:=c.far MH;have l:u (aA (keys T))=0:=hV.zero;have d:∀i,i<aA (keys T)-> -1000000<=u i/\u i<=1000000:=Zgv;cases b with|num k f=>(rw[ff,bO rfl];exact⟨bH,bH⟩)|app m o n=>rw[ff,bL bJ];unfold gO qe;split;rename_i a;have e:=a.choose_spec;exact d (idx T (.mk 3 a.choose.1 0 a.choose.2)) (by rw[H7];exact tV e.1);exact⟨bJ,bJ⟩
section
variable{w w':ao}{sb:Nat}{N:a6}{L:br}{d:Nat}{a:Int}{F:aj}
theorem Zl3(h:fk sb N L d a w F)(s:ax)(z:s.size<=maxLen)(x:nF w):∃v:Int,((iN N a s).2=0-> -1000000<=v/\v<=1000000)/\(¬(iN N a s).2=0->v=0)/\∀W,eX w W->cP 77 #[pT sb,ai s] W λe q=>e=aH (aL #[iI v,iI (iN N a s).1,iI (iN N a s).2])/\eX W q:=by
 obtain⟨T,A,_,_,xs,_,_,_,g,rfl,y,_,rfl⟩:=h;have un:∀b:Int,a=b->¬b=1->xs.vd=iI b->∃v:Int,((iN N a s).2=0-> -1000000<=v/\v<=1000000)/\(¬(iN N a s).2=0->v=0)/\∀W,eX w W->cP 77 #[pT sb,ai s] W λe q=>e=aH (aL #[iI v,iI (iN N a s).1,iI (iN N a s).2])/\eX W q:=by rintro b rfl hb m;have e:iN N a s=(0,12):=by{unfold iN;rw[bL hb]};rw[e];exact⟨0,λh=>absurd h bJ,λ_=>rfl,λW j=>Zo9 (g.ss.ps.ext j id (λ_ _ f=>f)) m hb s⟩
 rcases y with⟨o,k,_⟩|⟨rfl,k,_,u,C,⟨r,_⟩,t,_⟩|⟨o,k,_⟩;exact un 0 o bJ k;have l:gn T A:=⟨g.ss.p.ts.cl,g.ss.p.ts.nd,g.ss.p.ac,g.ss.p.nd⟩;have D:iN N 1 s=(uC N (gO T u) s).2:=by unfold iN uC;rw[bO rfl];by_cases c:600<s.size;rw[bO c,bO c];rw[bL c,bL c];cases fL N s.toList<;>rfl
 rw[D];refine⟨(uC N (gO T u) s).1,λi=>?_,λi=>?_,λW j=>Zm5 (g.ss.ps.ext j id (λ_ _ f=>f)) k C (t.ext j id) l g.ss.lK r (x.hd.ext j id) s z⟩;unfold uC at i⊢;by_cases c:600<s.size;rw[bO c];decide;rw[bL c]at i⊢;cases n:fL N s.toList with|no e p=>(exact⟨bK,bK⟩)|ok nd B=>exact Zl2 l g.ss.lK r (qy7 g.ss.ok n)
 unfold uC at i⊢;by_cases c:600<s.size;rw[bO c];rw[bL c]at i⊢;cases n:fL N s.toList with|no e p=>(rfl)|ok nd B=>rw[n]at i;exact absurd rfl i
 exact un 2 o bJ k
theorem Zj7{xs:PX}(a:PS w sb N nv xs)(c:xs.vd=iI b)(hb:¬b=2):cP 49 #[pT sb] w λe w'=>e=aH (aL #[ae,iI 12])/\eX w w':=by
 have d:=a.bP;rw[c]at d;have g:=z7 d 7;have f:(b !=2)=aS:=by simpa using hb
 clear a c hb d;delta cP;go_in;go_wp2_with fail;refine cq (v:=aL #[ae,iI 12]) Zkb rfl ?_;exact UF
theorem Zh6(h:fk sb N L d a w F)(c:¬a=2):cP 49 #[pT sb] w λe w'=>e=aH (aL #[ae,iI 12])/\eX w w':=by obtain⟨_,_,_,_,_,_,_,_,f,rfl,g,_,rfl⟩:=h;rcases g with⟨rfl,b,_⟩|⟨rfl,b,_⟩|⟨rfl,b,_⟩;exact Zj7 f.ss.ps b c;exact Zj7 f.ss.ps b c;exact absurd rfl c
theorem Zm8(h:fk sb N L d 2 w F)(f:nF w):Tp w sb L:=by obtain⟨_,_,_,_,_,_,_,_,b,rfl,a,_,rfl⟩:=h;rcases a with⟨e,_⟩|⟨e,_⟩|⟨_,g,c,_⟩;exact Cs;exact Cs;exact Zo3 b g f.pat c
theorem Zl4{ps rs:Nat}{v p c:Int}(o:Int)(s:ax)(b:Int)(i:c=0-> -1000000<=v/\v<=1000000)(f:¬c=0->v=0)(u:∀W,eX w W->cP 77 #[pT ps,ai s] W λe t=>e=aH (aL #[iI v,iI p,iI c])/\eX W t)(x:∀W,eX w W->cP 86 #[pT rs,ai s] W λe t=>e=aH (aL #[iI p,iI c])/\eX W t):cP 56 #[aJ #[pT ps,pT rs],aJ #[iI 8,iI o,ai s,iI b]] w λe w'=>e=aH (ah)/\eX w w':=by
 obtain⟨z,C⟩:=bM u x;clear u x;delta cP;go_in;go_wp2_with fail;obtain⟨W,hW⟩:∃W,(w.alloc (aG #[pT ps,pT rs] 57)).alloc (aG #[iI 8,iI o,ai s,iI b] 66)=W:=⟨_,rfl⟩;have h:eX w W:=jj;have y:W.heap[w.heap.size]?=ad #[pT ps,pT rs] 57:=kI;have A:W.heap[w.heap.size+1]?=ad #[iI 8,iI o,ai s,iI b] 66:=jN;rw[hW];clear hW;obtain⟨q,r⟩:=bM y A;refine(z W h).I ?_;rintro e w1 ⟨rfl,a⟩;have E:=z7 (a.K q) 0;have D:=z7 (a.K r) 2;obtain⟨j,k⟩:=bM (h.z a) a;clear a h y A;go_wp2_with fail;refine(z w1 j).I ?_;rintro e G ⟨rfl,d⟩;have F:=z7 (((k.z d).block _ (j9 q) id).z q) 1;have n:=z7 (((k.z d).block _ (j9 r) id).z r) 2;have g:=q8 (j.z d);clear d E D k j;go_wp2_with fail;refine(C G g).I ?_;rintro e _ ⟨rfl,l⟩;have dY:=q8 (g.z l);clear l F n g;by_cases m:c=0;subst m;obtain⟨h1,h2⟩:=i rfl;clear i f;have J:decide (-1000000<=v)=aS:=uK;have I:decide (v<=1000000)=aS:=xD;exact ZhA;obtain rfl:=f m;have H:(c==0)=aT:=by simpa using m
 have B:(c !=0)=aS:=by simpa using m
 clear i f;exact ZhA
end
end
section
variable{w0 wr w:ao}{F0 F:aj}{El:List KL}{q1 g n c m bb:Nat}{Z:ao->Prop}
section
variable{w:ao}{ps rs bb:Nat}{N:a6}{L:br}{d:Nat}{Fr:aj}{lv mv:au}{q:Nat}{E:List KL}{U V:aY}
theorem KJ.bk(h:KJ w0 F0 bb lv mv q1 El El g n c wr):qC wr bb lv mv q1 El:=⟨h.bP,h.ls,h.ms,h.rd,h.sb⟩
theorem qC.ext{S:aj}{w':ao}(h:qC w bb lv mv q E)(b:q9 S w w')(a:∀k,BF bb lv mv E k->¬S k):qC w' bb lv mv q E:=⟨(b.block _ (j9 h.bP) (a _ (aO rfl))).z h.bP,j8 h.ls b (λk c=>a k (aP (aO c))),j8 h.ms b (λk c=>a k (aP (aP (aO c)))),λe d=>(h.rd e d).ext b (a _ (aP (aP (aP ⟨e,d,rfl⟩)))),h.sb⟩
theorem qC.lt(h:qC w bb lv mv q E):∀k,BF bb lv mv E k->k<w.heap.size:=by rintro k (e|e|e|⟨e,a,rfl⟩);rw[e];exact j9 h.bP;exact(h.ls.lt k e).2;exact(h.ms.lt k e).2;exact(h.rd e a).1
theorem KJ.bf{a:List KL}(h:KJ w0 F0 bb lv mv q1 El a g n c wr):∀k,BF bb lv mv El k->F0 k\/w0.heap.size<=k:=by rintro k (e|e|e|e);exact UP;exact UA;exact Un;exact Zdf
theorem Zh7{a:Int}(i:∀W,eX w W->cP 49 #[pT ps] W λe w'=>e=aH (aL #[ae,iI 12])/\eX W w')(g:aE w (aD rs 3)=aQ (iI a))(d:rs<w.heap.size)(h2:¬a=2)(bk:au):cP 57 #[aJ #[pT ps,pT rs],bk] w λe w'=>e=aH (ah)/\eX w w':=by obtain⟨k,HA⟩:=bM i g;have j:(a !=2)=aS:=xD;clear i g h2;delta cP;go_in;go_wp2_with fail;obtain⟨W,hW⟩:∃W,w.alloc (aG #[pT ps,pT rs] 57)=W:=⟨_,rfl⟩;have b:eX w W:=Cp;have h:W.heap[w.heap.size]?=ad #[pT ps,pT rs] 57:=Cq;rw[hW];clear hW;refine(k W b).I ?_;rintro e _ ⟨rfl,c⟩;have m:=z7 (c.K h) 1;have l:=((b.z c).cell (p:=(aD rs 3)) d id).z HA;have f:=q8 (b.z c);clear c b h;go_wp2_with fail;go_ret;exact⟨rfl,f⟩
theorem Zm9(hc:Tp w ps L)(hD:Doc rs N L d w Fr)(ha:aE w (aD rs 3)=aQ (iI 2))(I:nH (L.map Prod.fst) U V)(hL:aA L<=20)(hB:qC w bb lv mv q E)(hE:aA E<=10000000)(hq:q<=100000000):cP 57 #[aJ #[pT ps,pT rs],pT bb] w λe w'=>e=aH (ah)/\q9 (BF bb lv mv E) w w'/\∃X C E',qC w' bb X C (q+1+1) E'/\aA E'=aA E+8/\∀k,BF bb X C E' k->BF bb lv mv E k\/w.heap.size<=k:=by
 have hrs:rs<w.heap.size:=Cb _ _ hD rs (Gp _ _ hD).1;obtain⟨HC,HD,HA,T,HB⟩:=eS hc hD ha I hB;clear hc hD ha I hB;delta cP;go_in;go_wp2_with fail;obtain⟨W,hW⟩:∃W,w.alloc (aG #[pT ps,pT rs] 57)=W:=⟨_,rfl⟩;have c:eX w W:=Cp;have kA:W.heap[w.heap.size]?=ad #[pT ps,pT rs] 57:=Cq;rw[hW];clear hW;have KA:=q8 kA;refine(HC W c).I ?_;rintro e w1 ⟨g1,m1,_,rfl,m,zg,_,l,z⟩;have t:=q8 (m.K kA);obtain⟨a0,a1⟩:=db t 0 1;have a3:=((c.z m).cell (p:=(aD rs 3)) hrs id).z HA;obtain⟨cw,H,vq⟩:=bV (c.z m) l z;have Zpw:w.heap.size<=g1:=dm c.size zg;have Zpx:=(l.lt g1 rfl).2;have hm1:m1<=20:=by rw[<-sL l];exact dm z.cL hL
 clear m c kA l z;go_wp2_with fail;refine(HC w1 cw).I ?_;rintro e w2 ⟨A,m2,_,rfl,h,_,_,j,u⟩;have y:=q8 (h.K t);have Zpy:=(j.lt A rfl).2;have Mq:m2<=20:=by rw[<-sL j];exact dm u.cL hL
 obtain⟨bT,s,M,DS⟩:=cK (cw.z h) (j8 H h (λ_ _ f=>f)) j u;have a1:=z7 y 1;have Q:=q8 (js3 (Mn _ _ _ _ HD bT (λ_ _ f=>f)) T vq s);clear h j u a0 a3 H t;go_wp2_with fail;refine Q.I ?_;rintro e _ ⟨rfl,b⟩;obtain⟨KA3,x,r⟩:=bV (b.K y) (bT.z b) b;have a1':=z7 KA3 1;have O:=q8 (js3 (Mn _ _ _ _ HD x (λ_ _ f=>f)) T DS (j8 M b (λ_ _ f=>f)));clear b a1 Q;go_wp2_with fail;refine O.I ?_;rintro e w4 ⟨rfl,i⟩;have a:=r.z i;have K:=HB.ext (x.z i) (λ_ _ f=>f);have J:=HB.o.lt;obtain⟨G,P,iu⟩:=bV (Zh5 K bH bH (j8 s a (λ_ _ f=>f)) hm1 (λe=>by have:=J _ e;omega)) (j8 M a (λ_ _ f=>f)) (x.z i);have s4:w2.heap.size<=w4.heap.size:=a.size;clear i a K O a1' y KA3 r;go_wp2_with fail;refine G.I ?_;rintro e _ ⟨rfl,R,Y,E5,_,_,_,g,Gm⟩;have hwg:w.heap.size<=w4.heap.size:=iu.size;have B:¬(BF bb lv mv E A\/A=g1):=by rintro(e|e);have:=J _ e;exact MF;omega
 have F:=j8 P g.ext (λk hk e=>by have wH:A=k:=ZkJ;exact B (wH▸e));have S:¬BF bb R Y E5 A:=λe=>(g.bf A e).elim B (λe=>bH);obtain⟨Z,n,HL5⟩:=bV (Zh5 g.bk bH bH F Mq S) g Gm;clear g Gm F S G;go_wp2_with fail;refine Z.I ?_;rintro e _ ⟨rfl,lv6,mv6,E6,_,_,_,D,yg⟩;obtain⟨v,QG⟩:=bM D yg;clear D yg Z;go_wp2_with fail;go_ret;have s5:=n.o.ext.size;have h5:∀k,k<w.heap.size->BF bb R Y E5 k->BF bb lv mv E k:=λk hk e=>by rcases n.o.bf k e with(e|e)|e;exact e;omega;omega
 refine⟨rfl,((iu.M).z' n.ext (λk hk e=>e.elim id (λe=>bH))).z' v.ext (λk hk e=>e.elim (h5 k hk) (λe=>MF)),lv6,mv6,E6,v.bk,?_,λk hk=>?_⟩;have e1:=HL5.o;have e2:=QG.o;omega;rcases v.o.bf k hk with(e|e)|e;rcases n.o.bf k e with(e|e)|e;exact aO e;exact lQ;exact lQ;exact aP MF;exact lQ
end
section
variable{w w':ao}{ps rs:Nat}
theorem Zp2(b:Int)(s:ax)(a:Int)(bk:au)(hc:∀W,eX w W->cP 56 #[aJ #[pT ps,pT rs],aJ #[iI 8,iI b,ai s,iI a]] W λe w'=>e=aH (ah)/\Z w'):cP 34 #[aJ #[pT ps,pT rs],aJ #[iI 8,iI b,ai s,iI a],bk] w λe w'=>e=aH (ah)/\Z w':=(by have HC:=q8 hc;clear hc;delta cP;go_in;go_wp2_with fail;refine(HC _ (((rr w).alloc _).alloc _)).I ?_;rintro e w1 ⟨rfl,hz⟩;have HZ:=q8 hz;clear hz HC;go_wp2_with fail;go_ret;exact⟨rfl,HZ⟩)
theorem Zn0(b:Int)(s:ax)(a:Int)(bk:au)(hc:∀W,eX w W->cP 57 #[aJ #[pT ps,pT rs],bk] W λe w'=>e=aH (ah)/\Z w'):cP 34 #[aJ #[pT ps,pT rs],aJ #[iI 9,iI b,ai s,iI a],bk] w λe w'=>e=aH (ah)/\Z w':=(by have HC:=q8 hc;clear hc;delta cP;go_in;go_wp2_with fail;refine(HC _ (((rr w).alloc _).alloc _)).I ?_;rintro e w1 ⟨rfl,hz⟩;have HZ:=q8 hz;clear hz HC;go_wp2_with fail;go_ret;exact⟨rfl,HZ⟩)
end
section
variable{w w':ao}{rs:Nat}{N:a6}{L:br}{d:Nat}{a:Int}{F:aj}
theorem jS9(h:fR rs N L d a w F)(s:ax)(b:Int)(i:s.size<=maxLen):cP 79 #[pT rs,ai s,iI b] w λe w'=>e=aH (iI (J7 N s.toList b))/\cW w F (fR rs (fT N d s b) L d (if J7 N s.toList b=0 then 0 else a)) w':=(qA7 h.1 s b i).I λ_ _ ⟨f,c,g⟩=>⟨f,c.with (h.di g)⟩
theorem Zl5(h:fR rs N L d a w F)(s:ax)(i:s.size<=maxLen)(b:0<aA N):cP 81 #[pT rs,ai s] w λe w'=>e=aH (aL #[ai ⟨(U2 N s).1.toArray⟩,iI (U2 N s).2.1,iI (U2 N s).2.2])/\cW w F (fR rs N L d a) w':=(js0 h.1 s i b).I λ_ _ ⟨f,c,g⟩=>⟨f,c.with (h.quiet g)⟩
theorem Zh8(h:fR rs N L d a w F)(s:ax)(j:s.size<=maxLen)(c:0<aA N):cP 82 #[pT rs,ai s] w λe w'=>e=aH (aL #[iI (dV N (L.map Prod.fst) s).1,iI (dV N (L.map Prod.fst) s).2.1])/\cW w F (fR rs N (L++mG (dV N (L.map Prod.fst) s).2.2 d) d (if(dV N (L.map Prod.fst) s).2.2=aR then a else 0)) w':=by refine(qL7 h.1 s j c).I λ_ _ ⟨i,g,f⟩=>⟨i,g.with ?_⟩;by_cases b:(dV N (L.map Prod.fst) s).2.2=aR;rw[bO b];exact h.quiet (f.2 (λe=>e b));rw[bL b];exact f.1 b
theorem Zl6(h:fR rs N L d a w F)(hd:d<20):cP 83 #[pT rs] w λe w'=>e=aH (iI 0)/\cW w F (fR rs N L (d+1) 0) w':=(js1 h.1 hd).I λ_ _ ⟨c,b,f⟩=>⟨c,b.with f⟩
theorem jv8(h:fR rs N L d a w F)(hd:20<=d):cP 83 #[pT rs] w λe w'=>e=aH (iI 8)/\cW w F (fR rs N L d a) w':=(qi3 h.1 hd).I λ_ _ ⟨c,b,f⟩=>⟨c,b.with (h.quiet f)⟩
theorem Zn1(h:fR rs N L (d+1) a w F):cP 84 #[pT rs] w λe w'=>e=aH (iI 0)/\cW w F (fR rs (N.filter (λx=>decide (x.fr<(d:Int)+1))) (L.filter (λx=>decide (x.2<(d:Int)+1))) d 0) w':=(jI3 h.1).I λ_ _ ⟨c,b,f⟩=>⟨c,b.with f⟩
theorem jI9(h:fR rs N L 0 a w F):cP 84 #[pT rs] w λe w'=>e=aH (iI 11)/\cW w F (fR rs N L 0 a) w':=(qs2 h.1).I λ_ _ ⟨c,b,d⟩=>⟨c,b.with (h.quiet d)⟩
theorem Zi8{U V:aY}(h:fR rs N L d a w F)(b:nH (L.map Prod.fst) U V):cP 55 #[pT rs] w λe w'=>e=aH (.bool (ln (L.map Prod.fst)))/\cW w F (fR rs N L d (if ln (L.map Prod.fst)then 1 else 2)) w':=(jd8 h.1 b).I λ_ _ ⟨f,c,g⟩=>⟨f,c.with g⟩
theorem jG0(W:ao)(F:aj)(h:fR rs N L d a W F):F rs/\∃nv c b di,W.heap[rs]?=ad #[nv,aI c (aA L) b,iI d,di] 129:=Gp W F h.1
theorem Zn2(h:w.heap[rs]?=ad #[ae,ae,iI 0,iI 0] 129):fR rs [] [] 0 0 w (λk=>k=rs):=⟨jI4 h,z7 h 3⟩
end
section
variable{w w':ao}{sb rs:Nat}{N:a6}{L:br}{d:Nat}{a:Int}{F Fr:aj}
theorem Ts(h:fk sb N L d a w F):oV N/\(∀x∈N,x.fr<=(d:Int))/\aA L<=20:=by obtain⟨_,_,_,_,_,_,_,_,b,rfl,_,_,rfl⟩:=h;exact⟨b.ss.ok,b.st.wU,by rw[<-b.yl];exact b.ss.qx⟩
theorem Zj8(h:fk sb N L d a w F)(hd:fR rs N L d a w Fr)(e:ji N L):∃U V,nH (L.map Prod.fst) U V:=by obtain⟨T,A,_,_,_,_,_,_,f,rfl,_,_,rfl⟩:=h;obtain⟨⟨_,_,_,_,i,g,rfl⟩,_⟩:=hd;refine⟨T,A,f.lok e (λ_ b=>?_)⟩;rw[<-g]at b;obtain⟨x,c,rfl⟩:=dP.1 b;exact(i.ok x c).2
end
theorem Tt(m bb:Nat):mX (Bk m bb):=by rintro _ _ _ _ ⟨lv,mv,q,E,h,c,a,rfl⟩d b;exact⟨lv,mv,q,E,h.ext d b,c,a,rfl⟩
theorem Zn3(m bb:Nat):qX (Bk m bb):=by rintro _ _ ⟨_,_,_,_,h,_,_,rfl⟩;exact h.lt
theorem Zj9(h:Bk m bb w F):Bk (m+1) bb w F:=by obtain⟨lv,mv,q,E,h,_,_,rfl⟩:=h;exact⟨lv,mv,q,E,h,bH,bH,rfl⟩
def xq(ps rs:Nat)(w:ao)(F:aj):Prop :=
 ∃ N L d a b Fr,fk ps N L d a w b/\fR rs N L d a w Fr/\ji N L/\(∃ x∈N,x.fr<1)/\(∀ k,b k->¬Fr k)/\F=fun k=>b k\/Fr k
theorem Tu(ps rs:Nat):mX (xq ps rs):=by rintro _ _ _ _ ⟨N,L,d,a,g,Fr,i,f,l,h,j,rfl⟩c e;exact⟨N,L,d,a,g,Fr,lq _ _ _ _ i c (λk b=>e k (aO b)),mH _ _ _ _ f c (λk b=>e k (aP b)),l,h,j,rfl⟩
theorem Zk0(ps rs:Nat):qX (xq ps rs):=by rintro _ _ ⟨_,_,_,_,_,_,c,b,_,_,_,rfl⟩k a;exact a.elim (Mp _ _ c k) (Tq _ _ b k)
theorem Zq6:OQ (fun b N=>fk b N [] 0 0) (fun b N=>fR b N [] 0 0) where
 kp:=fun _ _=>lq
 kr:=fun _ _=>mH
 lp:=fun _ _=>Mp
 lr:=fun _ _=>Tq
 new:=Zp0
 ref:=fun _ _ h=>Zn2 h
 dp:=fun _ N _ _ s a h hs W hx=>by
  have:=Zh3 (lq _ _ _ _ h hx (fun _ _ f=>f)) s a hs
  rw[ite_self] at this
  exact this
 dr:=fun _ _ _ _ s a h hs=>ju.of mH h (fun _ h=>by
  have:=jS9 h s a hs
  rw[ite_self] at this
  exact this)
 tidy:=fun b w F h KK Zgp=>by
  obtain⟨T,A,K,nv,xs,D,Y,M,hP,_,_,_,rfl⟩:=h
  exact Yd Az w (by decide) hP.ss.ps.gJ KK Zgp
theorem Zp3{ps rs:Nat}{H:aj}{k c:Int}{s:ax}{b:Int}(hm:m<1048580)(hG:xq ps rs w F)(X:Bk m bb w H)(hd:∀k,F k->¬H k)(t:nF w)(n:k<=9)(y:s.size<=maxLen):cP 34 #[aJ #[pT ps,pT rs],aJ #[iI k,iI c,ai s,iI b],pT bb] w (PP w F H (xq ps rs) (Bk (m+1) bb)):=by
 have G:=hG;obtain⟨N,_,d,a,K,Fr,i,j,A,C,Y,rfl⟩:=hG;have hlp:=Mp _ _ i;have J:=Tq _ _ j;have B:0<aA N:=by obtain⟨x,T,_⟩:=C;exact G9 T
 have g:∀v z d' a',Pr w K Fr (fk ps v z d' a') (fR rs v z d' a'):=λ_ _ _ _=>⟨Y,hlp,J,lq,mH,Mp⟩;have done:∀{v z d' a'},ji v z->(∃x∈v,x.fr<1)->∀{e w'},PP w K Fr (fk ps v z d' a') (fR rs v z d' a') e w'->PP w (λk=>K k\/Fr k) H (xq ps rs) (Bk (m+1) bb) e w':=λ{v z d' a'}O Q {e w'}h=>js4 h (Zj9 X) (Tt _ bb) (Zn3 _ bb) hd (λR S p r q=>⟨v,z,d',a',R,S,p,r,O,Q,q,rfl⟩);have same:=λ{e w'}=>done (d':=d) (a':=a) (e:=e) (w':=w') A C;have o:∀{w'},eX w w'->Ax w (λk=>K k\/Fr k) H (xq ps rs) (Bk (m+1) bb) w':=λ{w'}x=>⟨x.M,_,H,Tu _ _ _ _ _ _ G x (λ_ _ f=>f),Tt _ _ _ _ _ _ (Zj9 X) x (λ_ _ f=>f),hd,λk n=>aO n⟩;by_cases O:k=1;subst O;exact(OP 1 c s b _ (aO rfl) (λW x=>Yg c s b ((g _ _ _ _).ext x) ((iZ.of lq i t (λW h _=>Zh3 h s b y)).ext x) ((ju.of mH j (λW h=>jS9 h s b y)).ext x (λ_ _ f=>f)))).I λe w' h=>done (A.decl d s b) (jI7 C) h;by_cases Q:k=2;subst Q;exact(OP 2 c s b _ (aP rfl) (λW x=>jV8 c s b ((g _ _ _ _).ext x) ((iZ.of lq i t (λW h l=>Zm6 h s y l)).ext x) ((ju.of mH j (λW h=>Zl5 h s y B)).ext x (λ_ _ f=>f)))).I λe w' h=>same h;by_cases P:k=3;subst P;exact(Ay 3 c s b _ (aO rfl) (λW x=>jr7 c s b ((g _ _ _ _).ext x) ((iZ.of lq i t (λW h l=>Zi6 h s y l.hd)).ext x) ((ju.of mH j (λW h=>Zh8 h s y B)).ext x (λ_ _ f=>f)))).I λe w' h=>done (A.take (Ts i).1 s (Ts i).2.1) C h;by_cases h4:k=4;subst h4;by_cases hd:d<20;exact(Ay 4 c s b _ (aP (aO rfl)) (λW x=>Yh c s b ((g _ _ _ _).ext x) ((iZ.of lq i t (λW h _=>Zm7 h hd)).ext x) ((ju.of mH j (λW h=>Zl6 h hd)).ext x (λ_ _ f=>f)))).I λe w' h=>done A C h;exact(Ay 4 c s b _ (aP (aO rfl)) (λW x=>Yh c s b ((g _ _ _ _).ext x) ((iZ.of lq i t (λW h _=>jI8 h bH)).ext x) ((ju.of mH j (λW h=>jv8 h bH)).ext x (λ_ _ f=>f)))).I λe w' h=>same h;by_cases h5:k=5;subst h5;cases d with|zero=>(exact(Ay 5 c s b _ (aP (aP (aO rfl))) (λW x=>Yi c s b ((g _ _ _ _).ext x) ((iZ.of lq i t (λW h _=>Zg3 h)).ext x) ((ju.of mH j (λW h=>jI9 h)).ext x (λ_ _ f=>f)))).I λe w' h=>same h)|succ d=>exact(Ay 5 c s b _ (aP (aP (aO rfl))) (λW x=>Yi c s b ((g _ _ _ _).ext x) ((iZ.of lq i t (λW h _=>Zp1 h)).ext x) ((ju.of mH j (λW h=>Zn1 h)).ext x (λ_ _ f=>f)))).I λe w' h=>done (A.pop _) (jW3 C) h
 by_cases h6:k=6;subst h6;exact(Ay 6 c s b _ (aP (aP (aP rfl))) (λW x=>jI0 c s b ((g _ _ _ _).ext x) ((iZ.of lq i t (λW h _=>Zk7 h)).ext x) (mH _ _ _ _ j x (λ_ _ f=>f)) jG0)).I λe w' h=>same h;by_cases h7:k=7;subst h7;obtain⟨U,V,D⟩:=Zj8 i j A;exact(jI1 c s b _ (g _ _ _ _) (iZ.of lq i t (λW h l=>Zk8 h l)) (ju.of mH j (λW h=>Zi8 h D))).I λe w' h=>done A C h;by_cases h8:k=8;subst h8;refine(Zp2 (Z:=λw'=>eX w w') c s b _ (λW x=>?_)).I λe w' h=>⟨h.1,o h.2⟩;obtain⟨_,v1,v2,v3⟩:=Zl3 (lq _ _ _ _ i x (λ_ _ f=>f)) s y (t.ext x);refine(Zl4 c s b v1 v2 v3 (λW' x'=>Zi7 (mH _ _ _ _ j (x.z x') (λ_ _ f=>f)) s y B)).I ?_;exact ZkB;by_cases h9:k=9;subst h9;by_cases ha:a=2;subst ha;obtain⟨U,V,D⟩:=Zj8 i j A;obtain⟨lv,mv,q,E,hb,_,_,rfl⟩:=X;refine(Zn0 (Z:=λw'=>Ax w (λk=>K k\/Fr k) (BF bb lv mv E) (xq ps rs) (Bk (m+1) bb) w') c s b _ (λW x=>?_)).I λe w' h=>h;have u:=mH _ _ _ _ j x (λ_ _ f=>f);refine(Zm9 (Zm8 (lq _ _ _ _ i x (λ_ _ f=>f)) (t.ext x)) u.1 u.2 D (Ts i).2.2 (hb.ext x (λ_ _ f=>f)) bH bH).I ?_;rintro e w' ⟨rfl,T,L,I,E',O,Q,P⟩;have M:q9 (BF bb lv mv E) w w':=(x.M).z T;have sx:=x.size;refine⟨rfl,M.I (λ_ _ e=>aP e),_,BF bb L I E',Tu _ _ _ _ _ _ G M (λk n e=>hd k n e),⟨L,I,q+1+1,E',O,bH,bH,rfl⟩,λk n e=>?_,λk n=>?_⟩;rcases P k e with e|e;exact hd k n e;have:=Zk0 _ _ _ _ G k n;omega;rcases n with n|n;exact aO (aO n);exact(P k n).imp aP (λe=>bH);refine(Zn0 (Z:=λw'=>eX w w') c s b _ (λW x=>?_)).I λe w' h=>⟨h.1,o h.2⟩;have u:=mH _ _ _ _ j x (λ_ _ f=>f);refine(Zh7 (λW' x'=>Zh6 (lq _ _ _ _ i (x.z x') (λ_ _ f=>f)) ha) u.2 (cC (J rs (jG0 _ _ j).1) x.size) ha _).I ?_;exact ZkB;exact(jV9 k c s b _ (g _ _ _ _) i j bH).I λe w' h=>same h
theorem Zp4:Bx 9 1048580 xq Bk where
 ext:=Tu
 lt:=Zk0
 ZaN:=Tt
 ltB:=Zn3
 begin:=by
  intro w hL
  refine(jW0 Zq6 w hL.hd hL.vS).I ?_
  rintro e w' ⟨ps,rs,Fp,Fr,rfl,hx,hp,hr,hd,hf⟩
  exact⟨ps,rs,_,rfl,hx,⟨qY,[],0,0,Fp,Fr,hp,hr,js5,⟨⟨bX,0,0⟩,by simp[qY],by decide⟩,hd,rfl⟩,hf⟩
 book:=fun bb w h=>by
  refine⟨ae,ae,0,[],⟨h,fB _ _ _ _,fB _ _ _ _,by simp,by simp⟩,by simp,by simp,?_⟩
  funext k
  apply propext
  constructor
  ·exact fun e=>aO e
  ·rintro(e|e|e|⟨e,he,_⟩)
   ·exact e
   ·simp[Value.ownBlock] at e
   ·simp[Value.ownBlock] at e
   ·simp at he
 looks:=by
  rintro m bb w F hm ⟨lv,mv,q,E,h,h1,h2,rfl⟩
  exact Zl1 h (by omega)
 step:=fun _ _ _ _ _ _ _ _ _ _ _ h0 h1 h2 h3 h4 h5 h6=>Zp3 h0 h1 h2 h3 h4 h5 h6
end
end Go.Proofs.YtegbdaffhpiacaaGreatDoor
