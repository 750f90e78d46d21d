/- Part. -/
import Derived.Test.YtegbdaffhpiacaaGreatDoorAl65
import Derived.Test.YtegbdaffhpiacaaGreatDoorAl75
import Derived.Test.YtegbdaffhpiacaaGreatDoorAl57
open Go.Ending renaming returned->aH
open Or renaming inl->aO,inr->aP
namespace Go.Proofs.YtegbdaffhpiacaaGreatDoor
open Go.Proofs.Tryz Ar
section
variable{N:a6}{l:aU}{d:Int}{T:aY}
structure ji(N:a6)(L:br):Prop where
 one:N.Pairwise (fun x y=>¬x.name.toList=y.name.toList)
 ar:∀ q∈L,∀ w ps,.mk 3 w 0 ps∈Z1 true q.1->∃ x∈N,x.name.toList=w.toList/\x.ar=(ps.length:Int)/\x.fr<=q.2
theorem jr3(h:N.Pairwise (λx y=>¬x.name.toList=y.name.toList)){x y:Nm}(d:x∈N)(g:y∈N)(e:x.name.toList=y.name.toList):x=y:=by induction h with|nil=>(simp at d)|cons c _ f=>rcases List.mem_cons.1 d with ex|ix<;>rcases List.mem_cons.1 g with b|a;rw[ex,b];subst ex;exact absurd e (c y a);subst b;exact absurd e.symm (c x ix);exact f ix a
theorem jV7{a:Int}(h:k9 N l=some a):∃x∈N,x.name.toList=l/\x.ar=a:=by unfold k9 at h;rw[Cx]at h;obtain⟨x,b,e⟩:=h;exact⟨x,GU b,by simpa using List.find?_some b,e⟩
section
variable{N:a6}{L:br}
theorem ji.nil(h:N.Pairwise (λx y=>¬x.name.toList=y.name.toList)):ji N []:=⟨h,bK⟩
theorem ji.decl(h:ji N L)(F:Int)(s:ax)(a:Int):ji (fT N F s a) L:=by
 unfold fT;split;rename_i b;refine⟨M0.2 ⟨h.one,List.pairwise_singleton _ _,λx c y d e=>?_⟩,λq g w ps f=>?_⟩;simp at d;subst d;have j:(k9 N s.toList).isSome=true:=by unfold k9;rw[Option.isSome_map,List.find?_isSome];exact⟨x,c,mK⟩
 unfold J7 at b;rw[j]at b;split at b;simp at b;split at b;simp at b;simp at b;obtain⟨x,c,i⟩:=h.ar q g w ps f;exact⟨x,s8 _ c,i⟩;exact h
theorem ji.pop(h:ji N L)(F:Int):ji (N.filter (λx=>decide (x.fr<F))) (L.filter (λx=>decide (x.2<F))):=by refine⟨h.one.filter _,λq d w ps c=>?_⟩;obtain⟨a,b⟩:=pS.1 d;obtain⟨x,i,f,e,g⟩:=h.ar q a w ps c;simp at b;exact⟨x,pS.2 ⟨i,bQ⟩,f,e,g⟩
theorem jr4(b:oV N){nd:Nd}{ts:aZ}(h:Y4 N l=.ok nd ts):tN N nd:=by unfold Y4 at h;split at h;exact ga;exact ga;rename_i c t d a;split at h;simp at h;obtain⟨rfl,_⟩:=h;exact jP1 b _ _ _ _ _ a;exact ga
theorem ji.snoc(h:ji N L){nd:Nd}(g:tN N nd)(e:∀x∈N,x.fr<=d):ji N (L++[(nd,d)]):=by refine⟨h.one,λq a w ps b=>?_⟩;rcases da.1 a with a|a;exact h.ar q a w ps b;simp at a;subst a;obtain⟨x,c,i,f⟩:=jV7 (g w ps b);exact⟨x,c,i,f,e x c⟩
theorem ji.take(h:ji N L)(c:oV N)(s:ax)(a:∀x∈N,x.fr<=d):ji N (L++mG (dV N (L.map Prod.fst) s).2.2 d):=by unfold dV;split;simpa[mG]using h;split;simpa[mG]using h;rename_i nd e b;split;simpa[mG]using h;split;simpa[mG]using h;split;simpa[mG]using h;simpa[mG]using h.snoc (jr4 c b) a
theorem ji.same(h:ji N L)(c:nD true T L):wk T:=by intro w ps qs b a;obtain⟨g,i,b⟩:=(c.mem _).1 b;obtain⟨m,d,a⟩:=(c.mem _).1 a;obtain⟨_,k,l,_,_⟩:=h.ar g i w ps b;obtain⟨_,j,f,_,_⟩:=h.ar m d w qs a;have e:=jr3 h.one k j (l.z f.symm);subst e;omega
theorem PL.lok{w:ao}{sb:Nat}{A:aY}{K:List dt}{nv:au}{xs:PX}{D:aj}{Y:List ak}(h:PL w sb N L T A K nv xs D Y)(k:ji N L)(j:∀p∈L,(Z0 p.1).length<=1000000):nH (L.map Prod.fst) T A:=by
 have c:∀f∈L.map Prod.fst,∃p∈L,p.1=f:=λf b=>by obtain⟨p,a,e⟩:=dP.1 b;exact⟨p,a,e⟩
 refine⟨⟨λy g=>?_,λy g=>?_,h.ss.lK,h.ss.pA⟩,λf b=>?_,λf b=>?_,?_,λf b z d=>?_,λf b z d=>?_,k.same h.st.ts⟩;obtain⟨p,a,i⟩:=(h.st.ts.mem y).1 g;exact(vN (h.st.ok p a)).1 y i;obtain⟨p,a,i⟩:=(h.st.aw.mem y).1 g;exact(vN (h.st.ok p a)).2 y i;obtain⟨p,a,rfl⟩:=c f b;exact h.fw p a;obtain⟨p,a,rfl⟩:=c f b;exact j p a;have:=h.ss.qx;rw[h.yl]at this;exact bQ;obtain⟨p,a,rfl⟩:=c f b;exact(h.st.ts.mem z).2 ⟨p,a,d⟩;obtain⟨p,a,rfl⟩:=c f b;exact(h.st.aw.mem z).2 ⟨p,a,d⟩
end
end
section
open Go.RowKit
variable{f:Nat}{args:Array au}{w:ao}{F:aj}{r:au}{Q0 Q:ao->aj->Prop}{N:a6}
theorem ju.of(a:mX Q0)(h:Q0 w F)(c:∀W,Q0 W F->Calls prog f args W λe g=>e=aH r/\cW W F Q g):ju f args w F r Q:=λW _ d b=>c W (a _ _ _ _ h d b)
theorem iZ.of(b:mX Q0)(h:Q0 w F)(d:nF w)(c:∀W,Q0 W F->nF W->Calls prog f args W λe g=>e=aH r/\cW W F Q g):iZ f args w F r Q:=λW a=>c W (b _ _ _ _ h a (λ_ _ f=>f)) (d.ext a)
def RB(rs:Nat)(a lv:au)(D:aj)(k:Nat):Prop:=k=rs\/a.ownBlock=some k\/lv.ownBlock=some k\/D k
def Doc(rs:Nat)(N:a6)(L:br)(d:Nat)(w:ao)(F:aj):Prop:=∃ X a lv D,iL w rs N X a lv d D/\X.map Ld.pl=L/\F=RB rs a lv D
section
variable{w w':ao}{rs:Nat}{N:a6}{L:br}{d:Nat}{F:aj}
theorem Mn:mX (Doc rs N L d):=by rintro _ _ _ _ ⟨X,g,lv,D,h,e,rfl⟩f a;exact⟨X,g,lv,D,h.ext f (a _ (aO rfl)) (λ_ b=>a _ (aP (aO b))) (λ_ b=>a _ (aP (aP (aO b)))) (λ_ c=>a _ (aP (aP (aP c)))),e,rfl⟩
theorem Cb:qX (Doc rs N L d):=by rintro _ _ ⟨_,_,_,_,h,e,rfl⟩;obtain⟨_,hb⟩:=h.s.bP;rintro k (rfl|e|e|e);exact j9 hb;exact(h.s.own.lt k e).2;exact(h.own.lt k e).2;exact h.jy k e
theorem To{X:List Ld}(e:X.map Ld.pl=L):dL X=L.map Prod.fst:=by rw[<-e];unfold dL;rw[List.map_map];rfl
theorem qA7(h:Doc rs N L d w F)(s:ax)(a:Int)(p:s.size<=maxLen):cP 79 #[pT rs,ai s,iI a] w λe w'=>e=aH (iI (J7 N s.toList a))/\cW w F (Doc rs (fT N d s a) L d) w'/\Au (J7 N s.toList a=0) w rs w':=by have j:=Cb _ _ h;obtain⟨X,_,lv,D,h,r,rfl⟩:=h;refine(qE4 s a h.s p).I ?_;rintro e w' ⟨n,t,i,m,o,l⟩;refine⟨n,⟨i.I (λk _ f=>f.elim aO (λe=>aP (aO e))),_,⟨X,m,lv,D,⟨o,?_,?_,h.ok,h.cL,h.f0,h.f20,h.y',?_,λk c=>cC (h.jy k c) i.size,h.uq,?_,h.Fs⟩,r,rfl⟩,?_⟩,t⟩;exact j8 h.own i (λg b e=>e.elim (h.y' g b) (h.Bo g b));exact λx q=>(h.rn x q).ext i (λk _ c e=>e.elim (λe=>h.uq (e▸c)) (λe=>h.Fq k e c));intro g b e;rcases l g e with f|f;exact h.Bo g b f;have:=j g (aP (aP (aO b)));omega;intro g b c;rcases l g b with f|f;exact h.Fq g f c;have:=h.jy g c;omega;rintro k (e|e|e|e);exact rJ;exact(l k e).imp (λe=>aP (aO e)) id;exact Ci;exact ME
theorem js0(h:Doc rs N L d w F)(s:ax)(f:s.size<=maxLen)(a:0<N.length):cP 81 #[pT rs,ai s] w λe w'=>e=aH (.tuple #[ai ⟨(U2 N s).1.toArray⟩,iI (U2 N s).2.1,iI (U2 N s).2.2])/\cW w F (Doc rs N L d) w'/\eX w w':=by have c:=h;obtain⟨_,_,_,_,h,_,rfl⟩:=h;refine(jy2 s h.s a f).I ?_;rintro e w' ⟨_,rfl,g,b⟩;rw[o6 g];exact⟨rfl,(cW.same c).more Mn b,b⟩
theorem qL7(h:Doc rs N L d w F)(s:ax)(q:s.size<=maxLen)(a:0<N.length):cP 82 #[pT rs,ai s] w λe w'=>e=aH (.tuple #[iI (dV N (L.map Prod.fst) s).1,iI (dV N (L.map Prod.fst) s).2.1])/\cW w F (Doc rs N (L++mG (dV N (L.map Prod.fst) s).2.2 d) d) w'/\Au (¬(dV N (L.map Prod.fst) s).2.2=none) w rs w':=by obtain⟨_,o,_,_,h,i,rfl⟩:=h;refine(qQ4 s h a q).I ?_;rintro e w' ⟨g,j,l,m,b,D',p,c,n,r⟩;rw[To i]at g c j;rw[i]at c;refine⟨g,⟨l.I (λk _ f=>f.elim aO (λe=>aP (aP (aO e)))),_,⟨m,o,b,D',p,c,rfl⟩,?_⟩,j⟩;rintro k (e|e|e|e);exact rJ;exact xu;exact(n k e).imp (λe=>aP (aP (aO e))) id;exact(r k e).imp (λe=>aP (aP (aP e))) id
theorem js1(h:Doc rs N L d w F)(hd:d<20):cP 83 #[pT rs] w λe w'=>e=aH (iI 0)/\cW w F (Doc rs N L (d+1)) w'/\w'.cell? (aD rs 3)=some (iI 0):=by obtain⟨X,l,lv,D,h,g,rfl⟩:=h;refine(qE9 h).I ?_;rintro e w' ⟨a,i,j,b⟩;rw[bL bH]at a b;exact⟨a,⟨j.I (λk _ f=>aO f),_,⟨X,l,lv,D,b,g,rfl⟩,λk c=>aO c⟩,i.1 bH⟩
theorem qi3(h:Doc rs N L d w F)(hd:20<=d):cP 83 #[pT rs] w λe w'=>e=aH (iI 8)/\cW w F (Doc rs N L d) w'/\eX w w':=by obtain⟨X,l,lv,D,h,g,rfl⟩:=h;refine(qE9 h).I ?_;rintro e w' ⟨a,i,j,b⟩;rw[bO bH]at a b;exact⟨a,⟨j.I (λk _ f=>aO f),_,⟨X,l,lv,D,b,g,rfl⟩,λk c=>aO c⟩,i.2 bH⟩
theorem jI2(F:Int)(X:List Ld):(lk F X).map Ld.pl=(X.map Ld.pl).filter (λp=>decide (p.2<F)):=by unfold lk;rw[List.filter_map];rfl
theorem jI3(h:Doc rs N L (d+1) w F):cP 84 #[pT rs] w λe w'=>e=aH (iI 0)/\cW w F (Doc rs (N.filter (λx=>decide (x.fr<(d:Int)+1))) (L.filter (λx=>decide (x.2<(d:Int)+1))) d) w'/\w'.cell? (aD rs 3)=some (iI 0):=by obtain⟨X,_,_,D,h,o,rfl⟩:=h;refine(jN4 h bH).I ?_;rintro e w' ⟨j,p,g,b,a,c,i,l⟩;have n:((d+1:Nat):Int)-1=(d:Int):=bH;have m:((d+1:Nat):Int)=(d:Int)+1:=bH;rw[n,m]at c;refine⟨j,⟨g.I (λk _ f=>aO f),_,⟨lk ((d:Int)+1) X,b,a,D,c,?_,rfl⟩,?_⟩,p⟩;rw[jI2,o];rintro k (e|e|e|e);exact rJ;exact aP (i k e);exact aP (l k e);exact ME
theorem qs2(h:Doc rs N L 0 w F):cP 84 #[pT rs] w λe w'=>e=aH (iI 11)/\cW w F (Doc rs N L 0) w'/\eX w w':=by have b:=h;obtain⟨_,_,_,_,h,_,rfl⟩:=h;refine(qu7 h).I ?_;rintro e w' ⟨a,rfl⟩;exact⟨a,cW.same b,q9.refl _ _⟩
theorem jd8{U V:aY}(h:Doc rs N L d w F)(a:nH (L.map Prod.fst) U V):cP 55 #[pT rs] w λe w'=>e=aH (.bool (ln (L.map Prod.fst)))/\cW w F (Doc rs N L d) w'/\w'.cell? (aD rs 3)=some (iI (if ln (L.map Prod.fst)then 1 else 2)):=by obtain⟨X,l,lv,D,h,b,rfl⟩:=h;rw[<-To b]at a⊢;refine(jl0 jZ0 h a).I ?_;rintro e w' ⟨j,c,m,i⟩;exact⟨j,⟨c.I (λk _ f=>aO f),_,⟨X,l,lv,D,m,b,rfl⟩,λk g=>aO g⟩,z7 i 3⟩
theorem Gp(W:ao)(F:aj)(h:Doc rs N L d W F):F rs/\∃nv b a di,W.heap[rs]?=ad #[nv,.slice b L.length a,iI d,di] 129:=by
 obtain⟨X,f,_,_,h,c,rfl⟩:=h;obtain⟨di,hb⟩:=h.s.bP;obtain⟨b,a,rfl⟩:=Z3 h.own;have e:L.length=X.length:=by rw[<-c,fG]
 rw[e];exact⟨aO rfl,f,b,a,iI di,hb⟩
theorem jI4(h:w.heap[rs]?=ad #[ae,ae,iI 0,iI 0] 129):Doc rs [] [] 0 w (λk=>k=rs):=by have a:∀g,(ae).ownBlock=some g->False:=λg b=>absurd b gp;refine⟨[],ae,ae,λ_=>False,⟨⟨⟨0,h⟩,fB _ _ _ _,λg b=>(a g b).elim,bK,λ_ h=>absurd h bK⟩,fB _ _ _ _,bK,bK,bK,bK,bK,λg b=>(a g b).elim,λg b=>(a g b).elim,λ_ f=>f.elim,λf=>f,λg b=>(a g b).elim,λg b=>(a g b).elim⟩,rfl,?_⟩;funext k;apply propext;constructor;exact λe=>aO e;rintro(e|e|e|e);exact e;exact(a k e).elim;exact(a k e).elim;exact e.elim
end
theorem js4{w':ao}{g i d:aj}{P R B:ao->aj->Prop}{G:ao->aj->Prop}{e:Ending}(h:PP w g i P R e w')(m:B w d)(t:mX B)(s:qX B)(hd:∀k,g k\/i k->¬d k)(q:∀a b,P w' a->R w' b->(∀k,a k->¬b k)->G w' (λk=>a k\/b k)):PP w (λk=>g k\/i k) d G B e w':=by obtain⟨r,l,a,b,o,n,p,j⟩:=h;refine⟨r,l.I (λ_ _ e=>aO e),_,d,q a b o n p,t _ _ _ _ m l (λk c e=>hd k e c),λk c e=>?_,λk c=>?_⟩;rcases j k c with f|f;exact hd k f e;have:=s _ _ m k e;omega;rcases c with c|c;exact(j k c).imp aO id;exact aO (aP c)
theorem jI7{F:Int}{s:ax}{a:Int}(h:∃x∈N,x.fr<1):∃x∈fT N F s a,x.fr<1:=by obtain⟨x,b,c⟩:=h;refine⟨x,?_,c⟩;unfold fT;split;exact s8 _ b;exact b
theorem jW3{d:Nat}(h:∃x∈N,x.fr<1):∃x∈N.filter (λx=>decide (x.fr<(d:Int)+1)),x.fr<1:=by obtain⟨x,b,a⟩:=h;exact⟨x,pS.2 ⟨b,bQ⟩,a⟩
theorem js5:ji qY []:=ji.nil (by have c:∀a b:UInt8,¬a=b->¬(⟨#[a]⟩:ax).toList=(⟨#[b]⟩:ax).toList:=λa b h e=>h (by simpa using O8 e);refine List.Pairwise.cons (λy d=>?_) (List.Pairwise.cons (λy d=>?_) (List.pairwise_singleton _ _));simp at d;rcases d with rfl|rfl;exact c _ _ bJ;exact c _ _ bJ;simp at d;subst d;exact c _ _ bJ)
end
end Go.Proofs.YtegbdaffhpiacaaGreatDoor
