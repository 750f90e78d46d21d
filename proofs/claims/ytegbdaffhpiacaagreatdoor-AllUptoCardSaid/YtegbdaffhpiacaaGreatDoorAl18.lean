/- Part. -/
import Derived.Test.YtegbdaffhpiacaaGreatDoorAl03
import Derived.Lib.ItoaNum
open Bool renaming false->aT,true->aS
open List renaming length->aA
open Or renaming inl->aO,inr->aP
namespace Go.Proofs.YtegbdaffhpiacaaGreatDoor
namespace Ar
inductive r':Nd->Prop
 | mk {k v:Int} {w:ByteArray} {ps:List Nd} (h:k=4\/k=5 -> -1000<=v/\v<=1000) (hp:∀ p∈ps,r' p):r' (.mk k w v ps)
def yj(f:aZ->Rs Nd):Prop:=∀ ts nd a,f ts=.ok nd a->r' nd
theorem DH(d:List (aZ->Rs Nd))(h:∀f∈d,yj f):∀ts ps b,J5 d ts=.ok ps b->∀p∈ps,r' p:=by induction d with|nil=>(intro ts ps b e;simp[J5]at e;obtain⟨rfl,rfl⟩:=e;intro p c;exact absurd c bK)|cons f d l=>intro ts ps b e;unfold J5 at e;split at e;exact cF;rename_i a n j;split at e;exact cF;rename_i m vs k;simp only[Rs.ok.injEq]at e;obtain⟨rfl,rfl⟩:=e;intro p c;rcases List.mem_cons.1 c with rfl|c;exact h f (List.mem_cons_self ..) _ _ _ j;exact l (λg i=>h g (List.mem_cons_of_mem _ i)) _ _ _ k p c
theorem jx0(m:Nat)(f:aZ->Rs Nd)(h:yj f):∀ts ps b,Y8 m f ts=.ok ps b->∀p∈ps,r' p:=by induction m with|zero=>(intro ts ps b e;exact absurd e (by simp[Y8]))|succ m g=>intro ts ps b e;cases ts with|nil=>(exact absurd e (by simp[Y8]))|cons t ts=>unfold Y8 at e;split at e;simp only[Rs.ok.injEq]at e;obtain⟨rfl,rfl⟩:=e;intro p c;exact absurd c bK;split at e;exact cF;rename_i a j d;split at e;exact cF;rename_i k vs i;simp only[Rs.ok.injEq]at e;obtain⟨rfl,rfl⟩:=e;intro p c;rcases List.mem_cons.1 c with rfl|c;exact h _ _ _ d;exact g _ _ _ i p c
theorem Xx(k:Int):yj (W8 k):=by intro ts nd b e;cases ts with|nil=>(exact absurd e (by simp[W8]))|cons t ts=>simp only[W8]at e;split at e;exact cF;split at e;exact cF;rename_i v _ c;simp only[Rs.ok.injEq]at e;obtain⟨rfl,rfl⟩:=e;exact .mk (λ_=>bH) (λp a=>absurd a bK)
theorem Xy{e k:Int}{w:ByteArray}{r:Rs (aY)}{nd:Nd}{b:aZ}(c:¬(k=4\/k=5))(d:∀ps a,r=.ok ps a->∀p∈ps,r' p)(h:Z5 e k w r=.ok nd b):r' nd:=by cases r with|no e p=>(exact absurd h (by simp[Z5]))|ok ps a=>simp only[Z5]at h;cases a with|nil=>(exact absurd h (by simp[U0]))|cons v vs=>simp only[U0]at h;split at h;simp only[Rs.ok.injEq]at h;obtain⟨rfl,rfl⟩:=h;exact .mk (λh=>absurd h c) (d ps _ rfl);exact Zed
theorem jM5{f:aZ->Rs Nd}(h:yj f):yj (fp f):=by intro ts _ _ e;cases ts with|nil=>(exact absurd e (by simp[fp]))|cons t ts=>simp only[fp]at e;split at e;exact cF;exact h _ _ _ e
theorem jx1(N:a6)(n:Nat):∀d,yj (Z4 N n d):=by induction n with|zero=>(intro d ts nd b e;exact absurd e zx)|succ n g=>intro d ts nd b e;cases ts with|nil=>(exact absurd e zx)|cons t ts=>unfold Z4 at e;split at e;split at e;exact cF;split at e;exact cF;rename_i u c;split at e;split at e;exact cF;rename_i a _;split at e;exact cF;exact Xy bJ (λps vs j=>DH _ (λf i=>by rw[(List.mem_replicate.1 i).2];exact jM5 (g (d+1))) c ps vs j) e;exact cF;split at e;split at e;exact cF;split at e;exact ZlD;exact cF;exact Xx 4 _ _ _ e
theorem jM6{l:aU}{ks:Int×Int}(h:iR l=some ks):¬(ks.1=4\/ks.1=5):=by
 unfold iR at h;repeat' (split at h)
 all_goals first|(simp only[xF]at h;subst h;decide)|exact absurd h bK
theorem jx2(N:a6)(n:Nat):∀d,yj (Z8 N n d):=by induction n with|zero=>(intro d ts nd c e;exact absurd e uM)|succ n i=>intro d ts nd c e;cases ts with|nil=>(exact absurd e uM)|cons t ts=>unfold Z8 at e;split at e;{split at e;exact cF;split at e;exact cF;rename_i u b;split at e;exact cF;rename_i ks g;refine Xy (jM6 g) (λps vs a=>? _) e;unfold nL at a;have hT:=jx1 N n (d+1);have hF:=i (d+1);split at a;exact DH _ Va b ps vs a;split at a;exact DH _ Va b ps vs a;split at a;exact DH _ ZjB b ps vs a;split at a;{exact DH _ (by intro f hf;simp at hf;rcases hf with rfl|rfl<;>first|(exact hT)|exact Xx 5) b ps vs a};exact jx0 _ _ hF b ps vs a};split at e;exact ZlD;exact cF
theorem Xz(f:Nat):∀n,n<10^(f+1)->pW f n=Lib.decDigits n:=by induction f with|zero=>(intro n a;rw[Lib.decDigits,dif_pos (by simpa using a)];rfl)|succ f b=>intro n a;unfold pW;rw[Lib.decDigits];by_cases h:n<10;rw[if_pos h,dif_pos h];rfl;rw[if_neg h,dif_neg h,b (n/10) (by rw[Nat.pow_succ]at a;omega)];rfl
theorem jx3{v:Int}(a:-1000<=v)(b:v<=1000):Lib.itoa v=itoa v:=by unfold Lib.itoa itoa;by_cases h:v<0;rw[bO h,bO h,Xz 3 _ bH,show v.natAbs=(-v).toNat from bH];rw[bL h,bL h,Xz 3 _ bH]
end Ar
namespace Ar
inductive Y2:Nd->Prop
 | num {v:Int} (h1:-1000<=v) (h2:v<=1000):Y2 (.mk 4 ByteArray.empty v [])
 | app {w:ByteArray} {ps:List Nd} (hw:X7 w.toList=true) (hl:ps.length<=3) (hp:∀ p∈ps,Y2 p):Y2 (.mk 3 w 0 ps)
def nZ(l:aU):Prop:=l=[61]\/l=[60]\/l=[60,61]\/l=gG
instance (l:aU):Decidable (nZ l):=inferInstanceAs (Decidable (l=[61]\/l=[60]\/l=[60,61]\/l=gG))
inductive dZ:Nd->Prop
 | truth {w:ByteArray} (hw:¬nZ w.toList):dZ (.mk 0 w 0 [])
 | con {w:ByteArray} {ps:List Nd} (hw:¬nZ w.toList) (hp:∀ p∈ps,dZ p):dZ (.mk 1 w 0 ps)
 | two {w:ByteArray} {a b:Nd} (hw:w.toList=[61]\/w.toList=[60]\/w.toList=[60,61]) (ha:Y2 a) (hb:Y2 b):dZ (.mk 2 w 0 [a,b])
 | le {w:ByteArray} {a b:Nd} {v:Int} (hw:w.toList=gG) (ha:Y2 a) (hb:Y2 b) (h1:-1000<=v) (h2:v<=1000):dZ (.mk 2 w 0 [a,b,.mk 5 ByteArray.empty v []])
theorem yk{P:Nd->Prop}(d:List (aZ->Rs Nd))(h:∀f∈d,∀ts nd b,f ts=.ok nd b->P nd):∀ts ps b,J5 d ts=.ok ps b->(∀p∈ps,P p)/\aA ps=aA d:=by induction d with|nil=>(intro ts ps b e;simp[J5]at e;obtain⟨rfl,rfl⟩:=e;exact⟨λp c=>absurd c bK,rfl⟩)|cons f d q=>intro ts ps b e;unfold J5 at e;split at e;exact cF;rename_i a o m;split at e;exact cF;rename_i j vs n;simp only[Rs.ok.injEq]at e;obtain⟨rfl,rfl⟩:=e;obtain⟨l,i⟩:=q (λg k=>h g (List.mem_cons_of_mem _ k)) o j _ n;refine⟨λp c=>? _,by simp[i]⟩;rcases List.mem_cons.1 c with rfl|c;exact h f bK _ _ _ m;exact l p c
theorem Ie{P Q:Nd->Prop}{f g:aZ->Rs Nd}(j:∀ts nd c,f ts=.ok nd c->P nd)(h:∀ts nd c,g ts=.ok nd c->Q nd){ts c:aZ}{ps:aY}(e:J5 [f,g] ts=.ok ps c):∃a b,ps=[a,b]/\P a/\Q b:=by simp only[J5]at e;split at e;exact cF;rename_i a m i;split at e;exact cF;rename_i l vs d;split at d;exact absurd d bK;rename_i b xs k;simp only[Rs.ok.injEq]at e d;obtain⟨rfl,rfl⟩:=d;obtain⟨rfl,rfl⟩:=e;exact⟨a,b,rfl,j _ _ _ i,h _ _ _ k⟩
theorem XA{P Q R:Nd->Prop}{f g h:aZ->Rs Nd}(l:∀ts nd d,f ts=.ok nd d->P nd)(j:∀ts nd d,g ts=.ok nd d->Q nd)(m:∀ts nd d,h ts=.ok nd d->R nd){ts d:aZ}{ps:aY}(e:J5 [f,g,h] ts=.ok ps d):∃a b c,ps=[a,b,c]/\P a/\Q b/\R c:=by unfold J5 at e;split at e;exact cF;rename_i a p k;split at e;exact cF;rename_i o vs i;simp only[Rs.ok.injEq]at e;obtain⟨rfl,rfl⟩:=e;obtain⟨b,c,rfl,hb,n⟩:=Ie j m i;exact⟨a,b,c,rfl,l _ _ _ k,hb,n⟩
theorem Oq{P:Nd->Prop}{f:aZ->Rs Nd}(h:∀ts nd b,f ts=.ok nd b->P nd)(m:Nat):∀ts ps b,Y8 m f ts=.ok ps b->∀p∈ps,P p:=by induction m with|zero=>(intro ts ps b e;simp[Y8]at e)|succ m k=>intro ts ps b e;cases ts with|nil=>(simp[Y8]at e)|cons t ts=>unfold Y8 at e;split at e;simp only[Rs.ok.injEq]at e;obtain⟨rfl,rfl⟩:=e;exact λp c=>absurd c bK;split at e;exact cF;rename_i a j g;split at e;exact cF;rename_i d vs i;simp only[Rs.ok.injEq]at e;obtain⟨rfl,rfl⟩:=e;intro p c;rcases List.mem_cons.1 c with rfl|c;exact h _ _ _ g;exact k j d _ i p c
theorem DI{e k:Int}{w:ByteArray}{r:Rs (aY)}{nd:Nd}{b:aZ}(h:Z5 e k w r=.ok nd b):∃ps a,r=.ok ps a/\nd=.mk k w 0 ps:=by cases r with|no e p=>(exact absurd h (by simp[Z5]))|ok ps a=>simp only[Z5]at h;cases a with|nil=>(exact absurd h (by simp[U0]))|cons v vs=>simp only[U0]at h;split at h;simp only[Rs.ok.injEq]at h;obtain⟨rfl,rfl⟩:=h;exact⟨ps,_,rfl,rfl⟩;exact Zed
theorem Ig{k:Int}{ts a:aZ}{nd:Nd}(e:W8 k ts=.ok nd a):∃v,nd=.mk k ByteArray.empty v []/\ -1000<=v/\v<=1000:=by cases ts with|nil=>(exact absurd e (by simp[W8]))|cons t ts=>simp only[W8]at e;split at e;exact cF;split at e;exact cF;rename_i v _ b;simp only[Rs.ok.injEq]at e;obtain⟨rfl,rfl⟩:=e;exact⟨v,rfl,bH,bH⟩
theorem XB{f:aZ->Rs Nd}{ts a:aZ}{nd:Nd}(e:fp f ts=.ok nd a):∃b,f b=.ok nd a:=by cases ts with|nil=>(exact absurd e (by simp[fp]))|cons t ts=>simp only[fp]at e;split at e;exact cF;exact⟨_,e⟩
def oV(N:a6):Prop:=∀ x∈N,0<=x.ar/\x.ar<=3
theorem XC{N:a6}(h:oV N){l:aU}{a:Int}(e:k9 N l=some a):a<=3:=by unfold k9 at e;obtain⟨x,b,rfl⟩:=Cx.1 e;exact(h x (GU b)).2
theorem Ot{N:a6}(q:oV N)(n:Nat):∀d ts nd b,Z4 N n d ts=.ok nd b->Y2 nd:=by induction n with|zero=>(intro d ts nd b e;exact absurd e zx)|succ n s=>intro d ts nd b e;cases ts with|nil=>(exact absurd e zx)|cons t ts=>unfold Z4 at e;split at e;split at e;exact cF;split at e;exact cF;rename_i u r;split at e;rename_i c;split at e;exact cF;rename_i a w;split at e;exact cF;obtain⟨ps,vs,o,rfl⟩:=DI e;obtain⟨h,g⟩:=yk (P:=Y2) _ (λf m ts nd b j=>by rw[(List.mem_replicate.1 m).2]at j;obtain⟨k,i⟩:=XB j;exact s (d+1) _ _ _ i) r ps vs o;have:=XC q w;rw[List.length_replicate]at g;exact .app c bH h;exact cF;split at e;rename_i c;split at e;exact cF;split at e;simp only[Rs.ok.injEq]at e;obtain⟨rfl,rfl⟩:=e;exact .app c bK (λp l=>absurd l bK);exact cF;obtain⟨v,rfl,h,g⟩:=Ig e;exact .num h g
theorem jw5{l:aU}{ks:Int×Int}(h:iR l=some ks):((ks=(1,0)\/ks=(1,1)\/ks=(1,2))/\¬nZ l)\/(ks=(2,3)/\(l=[61]\/l=[60]\/l=[60,61]))\/(ks=(2,4)/\l=gG):=by
 unfold iR at h;repeat' (split at h)
 all_goals first|(simp at h;done)|(simp only[xF]at h;subst h)
 all_goals first|(rename_i e;subst e;(refine aO ⟨? _,? _⟩<;>first|(decide)|(simp;done)))|(rename_i e;subst e;refine aP (aO ⟨rfl,? _⟩);(simp;done))|(rename_i e;subst e;exact aP (aP ⟨rfl,rfl⟩))
theorem qP0{N:a6}(h:oV N)(n:Nat):∀d ts nd cA,Z8 N n d ts=.ok nd cA->dZ nd:=by induction n with|zero=>(intro d ts nd cA e;exact absurd e uM)|succ n i=>intro d ts nd cA e;cases ts with|nil=>(exact absurd e uM)|cons t ts=>unfold Z8 at e;split at e;split at e;exact cF;split at e;exact cF;rename_i u us;split at e;exact cF;rename_i ks g;obtain⟨ps,vs,hr,rfl⟩:=DI e;have hT:=Ot h n (d+1);have hF:=i (d+1);rcases jw5 g with⟨(rfl|rfl|rfl),hw⟩|⟨rfl,hw⟩|⟨rfl,hw⟩;exact .con hw (yk [_] (λf hf=>Gv) us ps vs hr).1;exact .con hw (yk [_,_] (λf hf=>Gv) us ps vs hr).1;exact .con hw (Oq hF _ us ps vs hr);exact ZiI;exact ZgK;split at e;rename_i hw;simp only[Rs.ok.injEq]at e;obtain⟨rfl,rfl⟩:=e;refine .truth ? _;exact Ua;exact cF
end Ar
namespace Ar
def oW(c:UInt8):Bool:=c != 32 && c != 40 && c != 41
def Dl(r:aU):Prop:=∀ c∈r.head?,oW c=aT
theorem DJ:∀{a b r s:aU},a.all oW=aS->b.all oW=aS->Dl r->Dl s->a++r=b++s->a=b/\r=s:=by intro a;induction a with|nil=>(intro b r s _ hb f _ h;cases b with|nil=>(exact⟨rfl,h⟩)|cons c b=>simp at h hb;subst h;exact absurd (f c bK) (by rw[hb.1];decide))|cons c a i=>intro b r s e hb f g h;cases b with|nil=>(simp at h e;subst h;exact absurd (g c bK) (by rw[e.1];decide))|cons d b=>simp only[List.all_cons,Bool.and_eq_true]at e hb;simp only[List.cons_append,List.cons.injEq]at h;obtain⟨rfl,h⟩:=h;obtain⟨rfl,rfl⟩:=i e.2 hb.2 f g h;exact⟨rfl,rfl⟩
def ym(v:Int):Bool:=numOf (itoa v)==some v && (itoa v).all oW && ((itoa v).head?.any (fun c => ! iG c))
theorem jh2:((List.range 2001).all λi=>ym ((i:Int)-1000))=aS:=dE
theorem Am{v:Int}(b:-1000<=v)(a:v<=1000):ym v=aS:=by have h:=qH.1 jh2 (v+1000).toNat (xG.2 bH);have e:(((v+1000).toNat:Nat):Int)-1000=v:=bH;rwa[e]at h
theorem XD{v u:Int}(e:-1000<=v)(c:v<=1000)(f:-1000<=u)(d:u<=1000)(h:itoa v=itoa u):v=u:=by have a:=Am e c;have b:=Am f d;simp only[ym,jk,fo]at a b;have:=a.1.1;rw[h,b.1.1]at this;exact(eI this).symm
theorem Ih{v:Int}(b:-1000<=v)(c:v<=1000):(itoa v).all oW=aS:=by have a:=Am b c;simp only[ym,jk]at a;exact a.1.2
theorem Ii{v:Int}(f:-1000<=v)(d:v<=1000):∃c l,itoa v=c::l/\iG c=aT/\c≠40:=by have a:=Am f d;simp only[ym,jk]at a;cases b:itoa v with|nil=>(rw[b]at a;exact absurd a.2 bK)|cons c l=>rw[b]at a;refine⟨c,l,rfl,by simpa using a.2,? _⟩;intro e;subst e;exact absurd a.1.2 (by simp[oW])
theorem qP1{c:UInt8}(h:iG c=aS):oW c=aS:=by simp only[iG,Cy]at h;simp only[oW,jk,bne_iff_ne];refine⟨⟨? _,? _⟩,? _⟩<;>(intro e;subst e;exact absurd h bJ)
theorem An{l:aU}(h:X7 l=aS):l.all oW=aS/\∃c r,l=c::r/\iG c=aS/\c≠40:=by simp only[X7,jk,Cy]at h;have b:=h.1.1;refine⟨qH.2 (λc a=>qP1 (qH.1 b c a)),? _⟩;cases l with|nil=>(exact absurd h.2.1 bJ)|cons c r=>have a:=qH.1 b c bK;refine⟨c,r,rfl,a,? _⟩;intro e;subst e;exact absurd a bJ
theorem Ou(r:aU):Dl (32::r):=ZjL
theorem DK(r:aU):Dl (41::r):=ZjL
theorem yn(p:Nd)(ps:aY)(r:aU):Dl (J0 (p::ps)++r):=by rw[J0];exact Ou _
theorem yo(v:Int):Z0 (.mk 4 ByteArray.empty v [])=itoa v:=ZmE
theorem yp(w:ByteArray):Z0 (.mk 3 w 0 [])=w.toList:=by rw[Z0,bL bJ,eG,bL bJ]
theorem yq(w:ByteArray)(p:Nd)(ps:aY):Z0 (.mk 3 w 0 (p::ps))=40::(w.toList++(J0 (p::ps)++[41])):=by rw[Z0,bO (Or.inr (Or.inr bK)),eG,bL bJ];simp
theorem qP2(v:Int):Z0 (.mk 5 ByteArray.empty v [])=itoa v:=ZmE
theorem Ij(w:ByteArray)(ps:aY):Z0 (.mk 2 w 0 ps)=40::(w.toList++(J0 ps++[41])):=by rw[Z0,bO (Or.inr (Or.inl rfl)),eG,bL bJ];simp
theorem jh3{ps:aY}(h:∀p∈ps,∀q r s,Y2 q->Dl r->Dl s->Z0 p++r=Z0 q++s->p=q/\r=s):∀{qs:aY}{r s:aU},(∀q∈qs,Y2 q)->J0 ps++41::r=J0 qs++41::s->ps=qs/\r=s:=by induction ps with|nil=>(intro qs r s _ e;cases qs with|nil=>(simp[J0]at e;exact⟨rfl,e⟩)|cons q qs=>simp[J0]at e)|cons p ps g=>intro qs r s d e;cases qs with|nil=>(simp[J0]at e)|cons q qs=>simp only[J0,List.cons_append,List.append_assoc,List.cons.injEq,true_and]at e;have d1:Dl (J0 ps++41::r):=by{cases ps with|nil=>(exact DK _)|cons a b=>exact yn a b _};have d2:Dl (J0 qs++41::s):=by{cases qs with|nil=>(exact DK _)|cons a b=>exact yn a b _};obtain⟨rfl,f⟩:=h p bK q _ _ (d q bK) d1 d2 e;obtain⟨rfl,rfl⟩:=g (λx c=>h x (List.mem_cons_of_mem _ c)) (λx c=>d x (List.mem_cons_of_mem _ c)) f;exact⟨rfl,rfl⟩
theorem Ov{a:Nd}(H:Y2 a):∀b r s,Y2 b->Dl r->Dl s->Z0 a++r=Z0 b++s->a=b/\r=s:=by induction H with|num y x=>(intro b r s hb A B e;cases hb with|num u t=>(rw[yo,yo]at e;obtain⟨n,rfl⟩:=DJ (Ih y x) (Ih u t) A B e;rw[XD y x u t n];exact⟨rfl,rfl⟩)| @app w ps z _ _=>obtain⟨c,l,o,g,f⟩:=Ii y x;obtain⟨d,I,hd,j,_⟩:=(An z).2;cases ps with|nil=>(rw[yo,yp,o,hd]at e;simp only[List.cons_append,List.cons.injEq]at e;rw[e.1,j]at g;exact absurd g bJ)|cons p ps=>rw[yo,yq,o]at e;simp only[List.cons_append,List.cons.injEq]at e;exact absurd e.1 f)| @app w ps z _ J G=>intro b r s hb A B e;obtain⟨m,d,I,hd,j,k⟩:=An z;cases hb with|num u t=>(obtain⟨c,l,o,g,f⟩:=Ii u t;cases ps with|nil=>(rw[yo,yp,o,hd]at e;simp only[List.cons_append,List.cons.injEq]at e;rw[<-e.1,j]at g;exact absurd g bJ)|cons p ps=>rw[yo,yq,o]at e;simp only[List.cons_append,List.cons.injEq]at e;exact absurd e.1.symm f)| @app w' qs v _ D=>obtain⟨h,_,_,C,_,i⟩:=An v;cases ps with|nil=>(cases qs with|nil=>(rw[yp,yp]at e;obtain⟨n,rfl⟩:=DJ m h A B e;rw[O8 n];exact⟨rfl,rfl⟩)|cons q qs=>rw[yp,yq,hd]at e;simp only[List.cons_append,List.cons.injEq]at e;exact absurd e.1 k)|cons p ps=>cases qs with|nil=>(rw[yp,yq,C]at e;simp only[List.cons_append,List.cons.injEq]at e;exact absurd e.1.symm i)|cons q qs=>rw[yq,yq]at e;simp only[List.cons_append,List.append_assoc,List.cons.injEq,true_and]at e;obtain⟨n,E⟩:=DJ m h (yn p ps _) (yn q qs _) e;obtain⟨F,rfl⟩:=jh3 (ps:=p::ps) G D E;rw[O8 n,F];exact⟨rfl,rfl⟩
theorem Ow{a b:Nd}(e:Y2 a)(hb:Y2 b)(h:Z0 a=Z0 b):a=b:=(Ov e b [] [] hb (by intro c d;simp at d) (by intro c d;simp at d) (by rw[h])).1
inductive fe:Nd->Prop
 | two {w:ByteArray} {a b:Nd} (hw:w.toList=[61]\/w.toList=[60]\/w.toList=[60,61]) (ha:Y2 a) (hb:Y2 b):fe (.mk 2 w 0 [a,b])
 | le {w:ByteArray} {a b:Nd} {v:Int} (hw:w.toList=gG) (ha:Y2 a) (hb:Y2 b) (h1:-1000<=v) (h2:v<=1000):fe (.mk 2 w 0 [a,b,.mk 5 ByteArray.empty v []])
theorem Ik{w w':ByteArray}{a b a' g:Nd}{xs ys:aY}(l:w.toList.all oW=aS)(f:w'.toList.all oW=aS)(n:Y2 a)(hb:Y2 b)(i:Y2 a')(h:Y2 g)(e:Z0 (.mk 2 w 0 (a::b::xs))=Z0 (.mk 2 w' 0 (a'::g::ys))):w=w'/\a=a'/\b=g/\J0 xs++[41]=J0 ys++[41]:=by
 rw[Ij,Ij]at e;simp only[zG,true_and]at e;obtain⟨m,j⟩:=DJ l f (yn _ _ _) (yn _ _ _) e;simp only[J0,qI,oJ,zG,true_and]at j;obtain⟨rfl,k⟩:=Ov n _ _ _ i (Ou _) (Ou _) j;simp only[zG,true_and]at k;have d:∀c:aY,Dl (J0 c++[41]):=by intro c;cases c with|nil=>(exact DK _)|cons z c=>exact yn z c _
 obtain⟨rfl,o⟩:=Ov hb _ _ _ h (d xs) (d ys) k;exact⟨O8 m,rfl,rfl,o⟩
theorem Il{l:aU}(h:l=[61]\/l=[60]\/l=[60,61]):l.all oW=aS:=Zkf
theorem Im{l:aU}(h:l=gG):l.all oW=aS:=by subst h;decide
theorem Ox{x y:Nd}(n:fe x)(g:fe y)(e:Z0 x=Z0 y):x=y:=by cases n with|two d f hb=>(cases g with|two a c b=>(obtain⟨rfl,rfl,rfl,_⟩:=Ik (Il d) (Il a) f hb c b e;rfl)|le a c b _ _=>obtain⟨_,_,_,h⟩:=Ik (Il d) (Im a) f hb c b e;simp[J0]at h)|le d f hb k i=>cases g with|two a c b=>(obtain⟨_,_,_,h⟩:=Ik (Im d) (Il a) f hb c b e;simp[J0]at h)|le a c b l j=>obtain⟨rfl,rfl,rfl,h⟩:=Ik (Im d) (Im a) f hb c b e;simp only[J0,qP2,qI,oJ,qF,zG,true_and]at h;obtain⟨m,_⟩:=DJ (Ih k i) (Ih l j) (DK _) (DK _) h;rw[XD k i l j m]
theorem XE{t:Nd}(h:Y2 t):∀x∈Z1 aS t,Y2 x:=by induction h with|num i f=>(intro x a;simp[Z1,z8,Y3]at a;subst a;exact .num i f)|app c e d g=>intro x a;simp only[Z1,List.mem_append]at a;rcases a with a|a;simp[Y3]at a;subst a;exact .app c e d;obtain⟨p,b,a⟩:=Z9.1 a;exact g p b x a
theorem x6{t:Nd}(h:Y2 t):Z1 aT t=[]:=by induction h with|num i g=>(simp[Z1,z8,Y3])| @app w ps f e c b=>simp only[Z1];rw[if_neg oF];have:z8 aT ps=[]:=by{clear e c;induction ps with|nil=>(rfl)|cons p ps a=>rw[z8,b p bK,a (λq d=>b q (List.mem_cons_of_mem _ d))];rfl};rw[this];rfl
theorem vN{f:Nd}(h:dZ f):(∀x∈Z1 aS f,Y2 x)/\(∀x∈Z1 aT f,fe x):=by induction h with|truth _=>(exact⟨λx hx=>by simp[Z1,z8,Y3]at hx,λx hx=>by simp[Z1,z8,Y3]at hx⟩)|con _ g c=>(refine⟨λx hx=>? _,λx hx=>? _⟩;(all_goals simp only[Z1]at hx;rw[if_neg oF]at hx;obtain⟨p,a,hx⟩:=Z9.1 Ck);exact(c p a).1 x hx;exact(c p a).2 x hx)|two b ha hb=>(refine⟨λx hx=>? _,λx hx=>? _⟩;exact Zig;simp[Z1,z8,Y3,x6 ha,x6 hb]at hx;subst hx;exact .two b ha hb)|le b ha hb e d=>refine⟨λx hx=>? _,λx hx=>? _⟩;exact Zig;simp[Z1,z8,Y3,x6 ha,x6 hb]at hx;subst hx;exact .le b ha hb e d
theorem Io{x:Nd}(h:Y2 x)(t:Bool):aA (Z1 t x)<=aA (Z0 x):=by induction h with| @num v h1 h2=>(obtain⟨c,l,e,_⟩:=Ii h1 h2;rw[yo,e];cases t<;>simp[Z1,z8,Y3])| @app w ps a d b ih=>have f:aA (z8 t ps)<=aA (J0 ps):=by{clear d b;exact Zlg};obtain⟨_,c,l,e,_⟩:=An a;have h1:aA (Z1 t (.mk 3 w 0 ps))<=1+aA (z8 t ps):=by{simp only[Z1,List.length_append];split<;>simp};cases ps with|nil=>(rw[yp,e];simp[z8]at h1;simp;omega)|cons p ps=>rw[yq];simp only[List.length_cons,List.length_append]at*;omega
theorem DM{x:Nd}(h:dZ x)(t:Bool):aA (Z1 t x)<=aA (Z0 x):=by induction h with|truth _=>(cases t<;>simp[Z1,z8,Y3])| @con w ps _ e ih=>(have i:aA (z8 t ps)<=aA (J0 ps):=by{clear e;exact Zlg};have h1:aA (Z1 t (.mk 1 w 0 ps))=aA (z8 t ps):=by{simp only[Z1,List.length_append];cases t<;>simp[Y3]};have h2:aA (J0 ps)<=aA (Z0 (.mk 1 w 0 ps)):=by{rw[Z0,if_pos (Or.inl rfl)];exact Zco};omega)| @two w a b f d hb=>(have h1:=Io d t;have h2:=Io hb t;have g:aA (Z1 t (.mk 2 w 0 [a,b]))<=1+aA (Z1 t a)+aA (Z1 t b):=by{simp only[Z1,z8,List.length_append,List.length_nil];split<;>simp<;>omega};rw[Ij];simp only[J0,List.length_cons,List.length_append,List.length_nil];omega)| @le w a b v f d hb _ _=>have h1:=Io d t;have h2:=Io hb t;have g:aA (Z1 t (.mk 2 w 0 [a,b,.mk 5 ByteArray.empty v []]))<=1+aA (Z1 t a)+aA (Z1 t b):=by{simp only[Z1,z8,List.length_append,List.length_nil];rw[if_neg (c:=Y3 t 5=aS) (by cases t<;>decide)];split<;>simp<;>omega};rw[Ij];simp only[J0,List.length_cons,List.length_append,List.length_nil];omega
end Ar
namespace Ar
open Classical in
noncomputable def eA(T:aY)(x:Nd):aY:=if x∈T then T else T++[x]
theorem vO{T:aY}{x:Nd}(h:x∈T):eA T x=T:=by unfold eA;exact zC
theorem vP{T:aY}{x:Nd}(h:¬x∈T):eA T x=T++[x]:=by unfold eA;rw[bL h]
theorem tK{T:aY}{x y:Nd}:y∈eA T x↔y∈T\/y=x:=by by_cases h:x∈T;rw[vO h];exact Zjt;rw[vP h];simp
theorem Ip{T:aY}{x:Nd}:T<+:eA T x:=by by_cases h:x∈T;rw[vO h];exact List.prefix_refl _;rw[vP h];exact List.prefix_append _ _
theorem Ao{T:aY}{x:Nd}(a:T.Nodup):(eA T x).Nodup:=by by_cases h:x∈T;rw[vO h];exact a;rw[vP h,GO];refine⟨a,bK,? _⟩;intro _ b _ hb e;simp at hb;subst hb e;exact h b
theorem Oy{T:aY}{x:Nd}:aA (eA T x)<=aA T+1:=by by_cases h:x∈T;rw[vO h];omega;rw[vP h];simp
mutual
noncomputable def eY:List Nd->Nd->List Nd
 | T,.mk k w v ps=>eA (cV T ps) (.mk k w v ps)
noncomputable def cV:List Nd->List Nd->List Nd
 | T,[]=>T
 | T,p::ps=>cV (eY T p) ps
end
theorem XF(T:aY)(ps:aY)(p:Nd):cV T (ps++[p])=eY (cV T ps) p:=by induction ps generalizing T with|nil=>(simp[cV])|cons q qs a=>simp[cV,a]
def J6:Nd->aY
 | .mk _ _ _ ps=>ps
def Cl(T:aY):Prop:=∀ (i:Nat) (x:Nd),T[i]?=some x->Y2 x/\∀ p∈J6 x,p∈T.take i
theorem Cl.take{T:aY}(h:Cl T)(n:Nat):Cl (T.take n):=by intro i x a;have e:=(ck.1 a).1;simp at e;rw[Cz bH]at a;obtain⟨d,c⟩:=h i x a;refine⟨d,λp b=>? _⟩;rw[rN,jR bH];exact c p b
theorem Cl.part{T:aY}(h:Cl T){x p:Nd}(c:x∈T)(a:p∈J6 x):p∈T:=by obtain⟨i,b⟩:=GV.1 c;exact gR ((h i x b).2 p a)
theorem Cl.put{T:aY}(h:Cl T){x:Nd}(k:Y2 x)(e:∀p∈J6 x,p∈T):Cl (eA T x):=by by_cases c:x∈T;rw[vO c];exact h;rw[vP c];intro i y b;by_cases j:i<aA T;rw[ei j]at b;obtain⟨g,f⟩:=h i y b;refine⟨g,λp a=>? _⟩;rw[s7 bH];exact f p a;have d:=(ck.1 b).1;simp at d;have:i=aA T:=bH;subst this;rw[du (cj _)]at b;simp at b;subst b;refine⟨k,λp a=>? _⟩;rw[s7 (cj _),cZ (cj _)];exact e p a
structure qW(T T':aY)(xs:aY):Prop where
 pre:T <+:T'
 nd:T.Nodup->T'.Nodup
 cl:Cl T->Cl T'
 mem:∀ y,y∈T'↔y∈T\/y∈xs
 len:aA T'<=aA T+aA xs
theorem qW.z{T b a:aY}{xs ys:aY}(h:qW T b xs)(k:qW b a ys):qW T a (xs++ys):=⟨h.pre.z k.pre,λd=>k.nd (h.nd d),λc=>k.cl (h.cl c),λ_=>Zkv,ZiG⟩
theorem qW.refl(T:aY):qW T T []:=⟨List.prefix_refl _,id,id,λ_=>bK,bK⟩
theorem jh4{x:Nd}(h:Y2 x):∀T,∃xs,qW T (eY T x) xs/\(∀y,y∈xs↔y∈Z1 aS x)/\aA xs=aA (Z1 aS x):=by induction h with| @num v a h2=>(intro T;refine⟨[.mk 4 ByteArray.empty v []],⟨Ip,Ao,λg=>? _,λy=>? _,? _⟩,λy=>by simp[Z1,z8,Y3],by simp[Z1,z8,Y3]⟩;simp only[eY,cV];exact g.put (.num a h2) (λp e=>absurd e kH);simp only[eY,cV,tK,List.mem_singleton];simp only[eY,cV];exact Oy)| @app w ps k l e s=>intro T;have n:∀(qs:aY),(∀q∈qs,q∈ps)->∀T,∃xs,qW T (cV T qs) xs/\(∀y,y∈xs↔y∈z8 aS qs)/\aA xs=aA (z8 aS qs):=by{intro qs;induction qs with|nil=>(intro _ T;exact⟨[],qW.refl T,λy=>by simp[z8],rfl⟩)|cons q qs f=>intro d T;obtain⟨xs,a,h2,h3⟩:=s q (d q bK) T;obtain⟨ys,i,k2,k3⟩:=f (λr m=>d r (List.mem_cons_of_mem _ m)) (eY T q);exact⟨xs++ys,a.z i,λy=>ZjW,ZjF⟩};obtain⟨xs,a,h2,h3⟩:=n ps (λq d=>d) T;have c:∀p∈ps,p∈Z1 aS p:=by{intro p b;have j:=e p b;cases j<;>simp[Z1,Y3]};refine⟨xs++[.mk 3 w 0 ps],⟨? _,? _,? _,? _,? _⟩,? _,? _⟩;simp only[eY];exact a.pre.z Ip;intro o;simp only[eY];exact Ao (a.nd o);intro g;simp only[eY];refine(a.cl g).put (.app k l e) (λp b=>? _);rw[a.mem,h2,Z9];exact aP ⟨p,b,c p b⟩;intro y;simp only[eY,tK,a.mem,List.mem_append,List.mem_singleton,or_assoc];simp only[eY,List.length_append];have:=Oy (T:=cV T ps) (x:=.mk 3 w 0 ps);have:=a.len;exact bQ;intro y;simp only[List.mem_append,List.mem_singleton,h2,Z1];rw[if_pos oF];simp[or_comm];simp only[Z1,List.length_append,h3];rw[if_pos oF];exact bQ
theorem jh5(T:aY)(x:Nd):x∈eY T x:=by cases x;simp only[eY,tK];exact aP dQ
/-! ### Where a tree stands -/
open Classical in
noncomputable def idx(T:aY)(x:Nd):Nat:=T.findIdx (fun y=>decide (y=x))
open Classical in
theorem k8{T:aY}{x:Nd}(h:x∈T):T[idx T x]?=some x:=by have a:idx T x<aA T:=List.findIdx_lt_length_of_exists ⟨x,h,bK⟩;have c:=List.findIdx_getElem (w:=a);rw[bZ a];have b:T[idx T x]=x:=pN c;exact jQ some b
theorem vQ{T:aY}(k:T.Nodup){x:Nd}{i:Nat}(h:T[i]?=some x):idx T x=i:=by have l:=k8 (cm h);obtain⟨j,e⟩:=ck.1 h;obtain⟨f,g⟩:=ck.1 l;have d:=CA.1 k;rcases GW (idx T x) i with b|c|a;exact absurd (g.z e.symm) (d _ _ f j b);exact c;exact absurd (e.z g.symm) (d _ _ j f a)
theorem Iq{T a:aY}(h:T<+:a){x:Nd}(b:x∈T):idx a x=idx T x:=by obtain⟨_,rfl⟩:=h;unfold idx;rw[List.findIdx_append,bO (List.findIdx_lt_length_of_exists ⟨x,b,bK⟩)]
theorem Ap{T:aY}{x y:Nd}(c:x∈T)(b:y∈T)(h:idx T x=idx T y):x=y:=by have a:=k8 c;rw[h,k8 b]at a;exact(eI a).symm
end Ar
namespace Ar
abbrev tL:=List UInt8->List Int->Int
mutual
def ff(I:tL):Nd->Int
 | .mk k w v ps=>if k=4 then v else I w.toList (DN I ps)
def DN(I:tL):List Nd->List Int
 | []=>[]
 | p::ps=>ff I p::DN I ps
end
theorem Oz(I:tL)(ps:aY):DN I ps=ps.map (ff I):=by induction ps with|nil=>(rfl)|cons p ps a=>simp[DN,a]
def gI(w:aU)(a b c:Int):Bool :=
 if w=[61] then decide (a=b) else if w=[60] then decide (a<b) else if w=[60,61] then decide (a<=b) else decide (a<=b+c)
def eB:aY->Int
 | [.mk _ _ c _]=>c
 | _=>0
def iY(val:Nd->Int):Nd->Bool
 | .mk _ w _ (a::b::r)=>gI w.toList (val a) (val b) (eB r)
 | _=>aT
def con(w:aU)(bs:List Bool):Bool :=
 if w=fI then !(bs.getD 0 aT) else if w=[61,62] then !(bs.getD 0 aT) || bs.getD 1 aT else if w=gd then bs.getD 0 aT==bs.getD 1 aT
 else if w=iQ then bs.any id else bs.all id
mutual
def cD(α:Nd->Bool):Nd->Bool
 | .mk k w v ps=>if k=2 then α (.mk k w v ps) else if k=0 then decide (w.toList=jm) else con w.toList (yr α ps)
def yr(α:Nd->Bool):List Nd->List Bool
 | []=>[]
 | p::ps=>cD α p::yr α ps
end
theorem OA(α:Nd->Bool)(ps:aY):yr α ps=ps.map (cD α):=by induction ps with|nil=>(rfl)|cons p ps a=>simp[yr,a]
def Sat(L:aY):Prop:=∃ I,∀ f∈L,cD (iY (ff I)) f=aS
structure Good(T:aY)(v:Nd->Int):Prop where
 num:∀ n,.mk 4 ByteArray.empty n []∈T->v (.mk 4 ByteArray.empty n [])=n
 fn:∀ w ps qs,.mk 3 w 0 ps∈T->.mk 3 w 0 qs∈T->ps.map v=qs.map v->v (.mk 3 w 0 ps)=v (.mk 3 w 0 qs)
theorem tM{a b:ByteArray}(h:a.toList=b.toList):a=b:=by rw[ByteArray.toList_eq,ByteArray.toList_eq]at h;cases a;cases b;simp at h;rw[h]
theorem XG(I:tL)(T:aY):Good T (ff I):=⟨λ_ _=>by simp[ff],λ_ _ _ _ _ h=>by simp only[ff,Oz];rw[h]⟩
open Classical in
noncomputable def qe(T:aY)(v:Nd->Int):tL:=fun w a=>
 if h:∃ x:ByteArray × aY,.mk 3 x.1 0 x.2∈T/\x.1.toList=w/\x.2.map v=a then v (.mk 3 h.choose.1 0 h.choose.2) else 0
theorem XH{T:aY}{v:Nd->Int}(f:Good T v)(k:∀x∈T,∀p∈J6 x,p∈T){x:Nd}(i:Y2 x):x∈T->ff (qe T v) x=v x:=by induction i with| @num n _ _=>(intro h;rw[f.num n h];simp[ff])| @app w ps l o m j=>intro h;have e:DN (qe T v) ps=ps.map v:=by{rw[Oz];exact List.map_congr_left λp b=>j p b (k _ h p b)};simp only[ff];rw[if_neg bJ,e];have a:∃x:ByteArray×aY,Nd.mk 3 x.1 0 x.2∈T/\x.1.toList=w.toList/\x.2.map v=ps.map v:=⟨(w,ps),h,rfl,rfl⟩;unfold qe;rw[dif_pos a];have d:=a.choose_spec;have c:a.choose.1=w:=tM d.2.1;have g:=d.1;rw[c]at g⊢;exact f.fn w _ _ g h d.2.2
theorem DO{t:Nd}(h:Y2 t):t∈Z1 aS t:=by cases h<;>simp[Z1,Y3]
theorem Ir{t:Nd}(h:Y2 t):∀x∈Z1 aS t,∀p∈J6 x,p∈Z1 aS t:=by induction h with|num k j=>(intro x a p d;simp[Z1,z8,Y3]at a;subst a;simp[J6]at d)| @app w ps g i d f=>intro x a p c;simp only[Z1,List.mem_append]at a⊢;rcases a with a|a;simp[Y3]at a;subst a;have b:p∈ps:=c;exact aP (Z9.2 ⟨p,b,DO (d p b)⟩);obtain⟨q,e,a⟩:=Z9.1 a;exact aP (Z9.2 ⟨q,e,f q e x a p c⟩)
theorem XI{f:Nd}(h:dZ f):∀x∈Z1 aS f,∀p∈J6 x,p∈Z1 aS f:=by induction h with|truth _=>(intro x hx;simp[Z1,z8,Y3]at hx)|con _ c ih=>(intro x hx p gz;simp only[Z1]at hx⊢;rw[if_neg oF]at hx⊢;obtain⟨q,hq,hx⟩:=Z9.1 Ck;exact Zjc)|two b a hb=>(intro x hx p gz;simp[Z1,z8,Y3]at hx⊢;rcases hx with hx|hx;exact aO (Ir a x hx p gz);exact aP (Ir hb x hx p gz))|le b a hb e d=>intro x hx p gz;simp[Z1,z8,Y3]at hx⊢;rcases hx with hx|hx;exact aO (Ir a x hx p gz);exact aP (Ir hb x hx p gz)
theorem XJ{f:Nd}(h:dZ f):∀x∈Z1 aT f,∀p∈(J6 x).take 2,p∈Z1 aS f:=by induction h with|truth _=>(intro x hx;simp[Z1,z8,Y3]at hx)|con _ c ih=>(intro x hx p gz;simp only[Z1]at hx⊢;rw[if_neg oF]at hx⊢;obtain⟨q,hq,hx⟩:=Z9.1 Ck;exact Zjc)|two b a hb=>(intro x hx p gz;simp[Z1,z8,Y3,x6 a,x6 hb]at hx;subst hx;simp[J6]at gz;simp[Z1,z8,Y3];rcases gz with rfl|rfl;exact aO (DO a);exact aP (DO hb))|le b a hb e d=>intro x hx p gz;simp[Z1,z8,Y3,x6 a,x6 hb]at hx;subst hx;simp[J6]at gz;simp[Z1,z8,Y3];rcases gz with rfl|rfl;exact aO (DO a);exact aP (DO hb)
theorem OC{u v:Nd->Int}{x:Nd}(h:∀p∈(J6 x).take 2,u p=v p):iY u x=iY v x:=by cases x with|mk k w n ps=>match ps,h with|[],_=>{rfl}|[_],_=>{rfl}|a::b::r,h=>have c:=h a kH;have hb:=h b kH;simp only[iY];rw[c,hb]
theorem OD{α β:Nd->Bool}{f:Nd}(b:dZ f):(∀x∈Z1 aT f,α x=β x)->cD α f=cD β f:=by induction b with|truth _=>(intro _;simp[cD])| @con w ps _ i d=>(intro h;simp only[cD,OA];rw[if_neg bJ,if_neg bJ,if_neg bJ,if_neg bJ];congr 1;refine List.map_congr_left λp a=>d p a λx g=>h x ? _;simp only[Z1];exact List.mem_append_right _ (Z9.2 ⟨p,a,g⟩))|two c e hb=>(intro h;simp only[cD,if_pos];exact h _ zw)|le c e hb k j=>intro h;simp only[cD,if_pos];exact h _ zw
theorem jO9{T L:aY}(g:∀x,x∈T↔∃f∈L,x∈Z1 aS f)(a:∀f∈L,dZ f):Sat L↔∃v,Good T v/\∀f∈L,cD (iY v) f=aS:=by
 constructor;rintro⟨I,h⟩;exact⟨ff I,XG I T,h⟩;rintro⟨v,j,i⟩;have k:∀x∈T,∀p∈J6 x,p∈T:=by intro x d p e;obtain⟨f,b,d⟩:=(g x).1 d;exact(g p).2 ⟨f,b,XI (a f b) x d p e⟩
 refine⟨qe T v,λf b=>? _⟩;rw[<-i f b];refine OD (a f b) λx d=>OC λp e=>? _;have c:=XJ (a f b) x d p e;exact XH j k ((vN (a f b)).1 p c) ((g p).2 ⟨f,b,c⟩)
end Ar
namespace Ar
structure At where
 wd:aU
 i:Nat
 j:Nat
 b:Int
def At.tr(x:At)(v:Nat->Int):Bool:=gI x.wd (v x.i) (v x.j) x.b
def At.Ok(x:At):Prop:=(x.wd=[61]\/x.wd=[60]\/x.wd=[60,61]\/x.wd=gG)/\(x.wd≠gG->x.b=0)
def At.ex(x:At):Int:=if x.wd=[60] then -1 else x.b
theorem At.OE{x:At}(v:Nat->Int)(h:x.wd=[61]):x.tr v=decide (v x.i=v x.j):=by unfold At.tr gI;exact zC
theorem It:gG≠[61]/\gG≠[60]/\gG≠[60,61]:=bJ
theorem At.OF{x:At}(v:Nat->Int)(a:x.Ok)(h:x.wd≠[61]):x.tr v=decide (v x.i-v x.j<=x.ex):=by unfold At.tr gI At.ex;rw[bL h];obtain⟨c,b⟩:=a;rcases c with e|e|e|e;exact absurd e h;rw[bO e,bO e];exact MR;have hb:=b (by rw[e];exact λq=>It.2.2 q.symm);rw[bL (by rw[e];decide),bO e,bL (by rw[e];decide)];exact MR;rw[bL (by rw[e];exact It.2.1),bL (by rw[e];exact It.2.2),bL (by rw[e];exact It.2.1)];exact MR
structure Fx where
 n:Nat
 num:Nat->Option Int
 tw:aX
 jJ:Nat × Nat->aX
 far:Int
structure Fx.V(F:Fx)(v:Nat->Int):Prop where
 zero:v F.n=0
 num:∀ i x,i<F.n->F.num i=some x->v i=x
 fn:∀ p∈F.tw,(∀ q∈F.jJ p,v q.1=v q.2)->v p.1=v p.2
 gV:∀ i j,i<=F.n->j<=F.n->v i-v j<=F.far
def Fx.Ok(F:Fx):Prop:=∀ p∈F.tw,(p.1<F.n/\p.2<F.n)/\∀ q∈F.jJ p,q.1<F.n/\q.2<F.n
def HA(a:List (At × Bool))(k:Nat)(v:Nat->Int):Prop:=∀ x,a[k]?=some x->x.1.tr v=x.2
theorem HA.app{a c:List (At×Bool)}{k:Nat}(b:k<aA a)(v:Nat->Int):HA (a++c) k v↔HA a k v:=by unfold HA;rw[ei b]
def fh(T:Tb)(x:At × Bool):Prop :=
 if x.1.wd=[61] then(x.2=aS->T.bN x.1.i x.1.j<=0/\T.bN x.1.j x.1.i<=0)
 else if x.2=aS then T.bN x.1.i x.1.j<=x.1.ex else T.bN x.1.j x.1.i <= -x.1.ex-1
theorem fh.le{n:Nat}{T c:Tb}{x:At×Bool}(h:fh T x)(b:kK n c T)(f:x.1.i<n)(d:x.1.j<n):fh c x:=by have k:=b x.1.i x.1.j f d;have g:=b x.1.j x.1.i d f;unfold fh at h⊢;split;rename_i e;rw[bO e]at h;intro a;have:=h a;omega;rename_i e;rw[bL e]at h;split;rename_i a;rw[bO a]at h;omega;rename_i a;rw[bL a]at h;omega
def mV(T:Tb)(x:At × Bool):Prop:=x.1.wd=[61]->x.2=aT->T.bN x.1.i x.1.j≠0/\T.bN x.1.j x.1.i≠0
def oX(F:Fx)(T:Tb)(p:Nat × Nat):Prop:=(∀ q∈F.jJ p,T.bN q.1 q.2<=0/\T.bN q.2 q.1<=0)->T.bN p.1 p.2<=0/\T.bN p.2 p.1<=0
def DP(F:Fx)(T:Tb):Prop:=∀ i x,i<F.n->F.num i=some x->T.bN i F.n<=x/\T.bN F.n i <= -x
theorem DP.le{F:Fx}{T b:Tb}(h:DP F T)(a:kK (F.n+1) b T):DP F b:=λi x c e=>by have:=h i x c e;have:=a i F.n bH bH;have:=a F.n i bH bH;omega
def gr(F:Fx)(T:Tb)(i:Nat):Int:=T.bN i F.n
theorem Aq{F:Fx}{H:Nat->(Nat->Int)->Prop}{K:Nat}{T:Tb}(h:dc (F.n+1) F.far F.V H K T){i j:Nat}(b:i<=F.n)(a:j<=F.n):gr F T i-gr F T j<=T.bN i j:=by have:=h.pU i j F.n bH bH bH;unfold gr;omega
theorem jP7{F:Fx}{n:List (At×Bool)}{K:Nat}{T:Tb}(h:dc (F.n+1) F.far F.V (HA n) K T)(r:DP F T)(m:F.Ok)(s:∀p∈F.tw,oX F T p)(b:∀p∈F.tw,gr F T p.1=gr F T p.2\/(∃q∈F.jJ p,gr F T q.1≠gr F T q.2)\/(∀q∈F.jJ p,T.bN q.1 q.2<=0/\T.bN q.2 q.1<=0)):F.V (gr F T):=by refine⟨h.diag F.n bH,λi x d e=>? _,λp c l=>? _,λi j d t=>? _⟩;have k:=r i x d e;have g:=h.pU i F.n i bH bH bH;have o:=h.diag i bH;unfold gr;omega;rcases b p c with e|⟨q,a,f⟩|e;exact e;exact absurd (l q a) f;have k:=s p c e;have g:=(m p c).1;have o:=Aq h (i:=p.1) (j:=p.2) bH bH;have u:=Aq h (i:=p.2) (j:=p.1) bH bH;omega;have k:=Aq h d t;have g:=h.hi i j bH bH;omega
theorem jP8{F:Fx}{f:List (At×Bool)}{K:Nat}{T:Tb}(h:dc (F.n+1) F.far F.V (HA f) K T){x:At×Bool}(d:x.1.Ok)(o:x.1.i<F.n)(p:x.1.j<F.n)(b:fh T x)(c:mV T x)(hx:x.1.tr (gr F T)≠x.2):gr F T x.1.i=gr F T x.1.j/\(0<T.bN x.1.i x.1.j\/0<T.bN x.1.j x.1.i):=by
 have m:=Aq h (i:=x.1.i) (j:=x.1.j) bH bH;have k:=Aq h (i:=x.1.j) (j:=x.1.i) bH bH;by_cases e:x.1.wd=[61];rw[At.OE _ e]at hx;unfold fh at b;rw[bO e]at b;cases a:x.2 with|true=>(rw[a]at hx;have:=b a;exact absurd (ig bH) hx)|false=>rw[a]at hx;have l:=c e a;have g:=h.pU x.1.i x.1.j x.1.i bH bH bH;have n:=h.diag x.1.i bH;refine⟨Ck,? _⟩;omega
 rw[At.OF _ d e]at hx;unfold fh at b;rw[bL e]at b;cases a:x.2 with|true=>(rw[a]at hx;rw[bO a]at b;exact absurd (ig bH) hx)|false=>rw[a]at hx;rw[bL (by rw[a];decide)]at b;exact absurd (iE bH) hx
theorem qZ6{F:Fx}{b:List (At×Bool)}{K:Nat}{T:Tb}(h:dc (F.n+1) F.far F.V (HA b) K T)(d:∀x∈b,fh T x){o p:Nat}(f:o<F.n)(e:p<F.n)(k:gr F T o=gr F T p)(hb:0<T.bN p o)(yes:Bool):((⟨[60],o,p,0⟩:At),yes)∉b/\o≠p:=by
 constructor;intro c;have a:=d _ c;unfold fh at a;rw[bL bK]at a;have g:=Aq h (i:=o) (j:=p) bH bH;cases yes with|true=>(simp[At.ex]at a;omega)|false=>simp[At.ex]at a;omega
 rintro rfl;have:=h.diag o bH;omega
theorem zT1{x:At}{v:Nat->Int}(a:x.Ok)(e:x.wd≠[61])(h:x.tr v=aS):v x.i-v x.j<=x.ex:=by rw[At.OF _ a e]at h;exact pJ
theorem qg2{x:At}{v:Nat->Int}(a:x.Ok)(e:x.wd≠[61])(h:x.tr v=aT):v x.j-v x.i<= -x.ex-1:=by rw[At.OF _ a e]at h;have:¬(v x.i-v x.j<=x.ex):=pJ;omega
end Ar
namespace Ar
def n8:aU:=[61,62]
inductive ee:Nd->Prop
 | truth {w:ByteArray} (hw:w.toList=jm\/w.toList=jS):ee (.mk 0 w 0 [])
 | neg {w:ByteArray} {p:Nd} (hw:w.toList=fI) (hp:ee p):ee (.mk 1 w 0 [p])
 | imp {w:ByteArray} {p q:Nd} (hw:w.toList=n8\/w.toList=gd) (hp:ee p) (hq:ee q):ee (.mk 1 w 0 [p,q])
 | many {w:ByteArray} {ps:List Nd} (hw:w.toList=iF\/w.toList=iQ) (hp:∀ p∈ps,ee p):ee (.mk 1 w 0 ps)
 | two {w:ByteArray} {a b:Nd} (hw:w.toList=[61]\/w.toList=[60]\/w.toList=[60,61]) (ha:Y2 a) (hb:Y2 b):ee (.mk 2 w 0 [a,b])
 | le {w:ByteArray} {a b:Nd} {v:Int} (hw:w.toList=gG) (ha:Y2 a) (hb:Y2 b) (h1:-1000<=v) (h2:v<=1000):ee (.mk 2 w 0 [a,b,.mk 5 ByteArray.empty v []])
theorem ee.ok{f:Nd}(h:ee f):dZ f:=by induction h with|truth hw=>(exact .truth Ua)|neg hw _ b=>(exact .con dv (λp a=>by simp at a;subst a;exact b))|imp hw _ _ d e=>(exact .con Ua (λp a=>by simp at a;rcases a with rfl|rfl;exact d;exact e))|many hw _ b=>(exact .con Ua b)|two hw c hb=>(exact .two hw c hb)|le hw c hb i g=>exact .le hw c hb i g
theorem XK{l:aU}{ks:Int×Int}(h:iR l=some ks):(ks=(1,0)/\l=fI)\/(ks=(1,1)/\(l=n8\/l=gd))\/(ks=(1,2)/\(l=iF\/l=iQ))\/(ks=(2,3)/\(l=[61]\/l=[60]\/l=[60,61]))\/(ks=(2,4)/\l=gG):=by
 unfold iR at h;repeat' (split at h)
 all_goals first|(simp at h;done)|(simp only[xF]at h;subst h)
 exact aO ⟨rfl,‹_›⟩;exact aP (aP (aO ⟨rfl,aO ‹_›⟩));exact aP (aP (aO ⟨rfl,aP ‹_›⟩));exact aP (aO ⟨rfl,aO ‹_›⟩);exact aP (aO ⟨rfl,aP ‹_›⟩);exact aP (aP (aP (aO ⟨rfl,aO ‹_›⟩)));exact aP (aP (aP (aO ⟨rfl,aP (aO ‹_›)⟩)));exact aP (aP (aP (aO ⟨rfl,aP (aP ‹_›)⟩)));exact aP (aP (aP (aP ⟨rfl,‹_›⟩)))
theorem qG5{N:a6}(h:oV N)(n:Nat):∀d ts nd cA,Z8 N n d ts=.ok nd cA->ee nd:=by induction n with|zero=>(intro d ts nd cA e;exact absurd e uM)|succ n i=>intro d ts nd cA e;cases ts with|nil=>(exact absurd e uM)|cons t ts=>unfold Z8 at e;split at e;split at e;exact cF;split at e;exact cF;rename_i u us;split at e;exact cF;rename_i ks g;obtain⟨ps,vs,hr,rfl⟩:=DI e;have hT:=Ot h n (d+1);have hF:=i (d+1);rcases XK g with⟨rfl,hw⟩|⟨rfl,hw⟩|⟨rfl,hw⟩|⟨rfl,hw⟩|⟨rfl,hw⟩;obtain⟨h1,h2⟩:=yk [_] (λf hf=>Gv) us ps vs hr;match ps,h1,h2 with|[p],h1,_=>{exact .neg hw (h1 p bK)};obtain⟨a,b,rfl,ha,hb⟩:=Ie hF hF (ts:=us) hr;exact .imp hw ha hb;exact .many hw (Oq hF _ us ps vs hr);exact ZiI;exact ZgK;split at e;rename_i hw;simp only[Rs.ok.injEq]at e;obtain⟨rfl,rfl⟩:=e;exact .truth hw;exact cF
def tN(N:a6)(x:Nd):Prop:=∀ w ps,.mk 3 w 0 ps∈Z1 aS x->k9 N w.toList=some (aA ps:Int)
theorem vR{N:a6}{k:Int}{w:ByteArray}{v:Int}{ps:aY}(a:¬k=3)(h:∀p∈ps,tN N p):tN N (.mk k w v ps):=by intro w' qs hm;simp only[Z1,da]at hm;rcases hm with hm|hm;exfalso;split at hm;simp at hm;exact a hm.1.symm;simp at hm;exact Zko
theorem XL{N:a6}{w:ByteArray}{ps:aY}(a:k9 N w.toList=some (aA ps:Int))(h:∀p∈ps,tN N p):tN N (.mk 3 w 0 ps):=by intro w' qs hm;simp only[Z1,da]at hm;rcases hm with hm|hm;simp[Y3]at hm;obtain⟨rfl,rfl⟩:=hm;exact a;exact Zko
theorem jP0{N:a6}(q:oV N)(n:Nat):∀d ts nd b,Z4 N n d ts=.ok nd b->tN N nd:=by induction n with|zero=>(intro d ts nd b e;exact absurd e zx)|succ n s=>intro d ts nd b e;cases ts with|nil=>(exact absurd e zx)|cons t ts=>unfold Z4 at e;split at e;split at e;exact cF;split at e;exact cF;rename_i u r;split at e;rename_i w;split at e;exact cF;rename_i a c;split at e;exact cF;obtain⟨ps,vs,o,rfl⟩:=DI e;obtain⟨h,g⟩:=yk (P:=tN N) _ (λf i=>by rw[List.mem_replicate]at i;obtain⟨_,rfl⟩:=i;intro ts nd b l;obtain⟨k,m⟩:=XB l;exact s _ _ _ _ m) r ps vs o;refine XL ? _ h;rw[c,g,List.length_replicate];have y:0<=a:=by{unfold k9 at c;rw[Option.map_eq_some_iff]at c;obtain⟨x,p,rfl⟩:=c;exact(q x (List.mem_of_find?_eq_some p)).1};exact bQ;exact cF;split at e;split at e;exact cF;rename_i a c;split at e;rename_i j;simp only[Rs.ok.injEq]at e;obtain⟨rfl,rfl⟩:=e;refine XL ? _ bK;rw[c,j];rfl;exact cF;obtain⟨v,rfl,h,g⟩:=Ig e;exact vR bJ bK
theorem jP1{N:a6}(q:oV N)(n:Nat):∀d ts nd g,Z8 N n d ts=.ok nd g->tN N nd:=by induction n with|zero=>(intro d ts nd g e;exact absurd e uM)|succ n r=>intro d ts nd g e;cases ts with|nil=>(exact absurd e uM)|cons t ts=>unfold Z8 at e;split at e;split at e;exact cF;split at e;exact cF;rename_i u k;split at e;exact cF;rename_i ks m;obtain⟨ps,vs,j,rfl⟩:=DI e;have l:=jP0 q n (d+1);have hF:=r (d+1);rcases XK m with⟨rfl,h⟩|⟨rfl,h⟩|⟨rfl,h⟩|⟨rfl,h⟩|⟨rfl,h⟩;exact vR bJ (yk [_] (λf hf=>Gv) k ps vs j).1;exact vR bJ (yk [_,_] (λf hf=>Gv) k ps vs j).1;exact vR bJ (Oq hF _ k ps vs j);obtain⟨a,b,rfl,o,hb⟩:=Ie l l (ts:=k) j;exact vR bJ (λp i=>by simp at i;rcases i with rfl|rfl;exact o;exact hb);obtain⟨a,b,c,rfl,o,hb,s⟩:=XA (R:=λnd=>∃v,nd=.mk 5 ByteArray.empty v []/\ -1000<=v/\v<=1000) l l (λts nd g e=>Ig e) (ts:=k) j;obtain⟨v,rfl,x,w⟩:=s;exact vR bJ (λp i=>by simp at i;rcases i with rfl|rfl|rfl;exact o;exact hb;exact vR bJ bK);split at e;rename_i h;simp only[Rs.ok.injEq]at e;obtain⟨rfl,rfl⟩:=e;exact vR bJ bK;exact cF
end Ar
end Go.Proofs.YtegbdaffhpiacaaGreatDoor
