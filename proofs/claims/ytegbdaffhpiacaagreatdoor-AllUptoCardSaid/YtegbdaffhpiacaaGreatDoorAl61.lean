/- Part. -/
import Derived.Test.YtegbdaffhpiacaaGreatDoorAl48
import Derived.Test.YtegbdaffhpiacaaGreatDoorAl36
set_option maxRecDepth 100000
set_option maxHeartbeats 1000000
open Bool renaming false->aT,true->aS
open Go.Ending renaming returned->aH
open List renaming length->aA
open Option renaming none->aR,some->aQ
open Go.Value renaming bool->aN,ownBlock->aB,slice->aI,tuple->aL
open Go.World renaming cell?->aE,ownsRow->aC
namespace Go.Proofs.YtegbdaffhpiacaaGreatDoor
open Go.Proofs.Tryz
open Go.RowKit Ar
variable{l:bm}{i n t g k j nT:Nat}{e:Ed}{S D E:aj}{w w' wr W:ao}{v tv:au}{b:Bool}{xa xb:Int}{T:aY}{wd:ax}{c:List (bm)}{cs:List (List (bm))}{u:Nat->Int}
def O0(l:bm):ak:=l.flatMap (fun e=>[iI e.a,iI e.b,iI e.c])
theorem qF0(l m:bm):O0 (l++m)=O0 l++O0 m:=by simp[O0]
theorem qF1(l:bm):aA (O0 l)=aA l*3:=by induction l with|nil=>(rfl)|cons a b c=>simp only[O0,List.flatMap_cons,List.length_append]at c⊢;simp at c⊢;omega
theorem qF2(h:l[i]?=aQ e):(O0 l)[i*3]?=aQ (iI e.a)/\(O0 l)[i*3+1]?=aQ (iI e.b)/\(O0 l)[i*3+2]?=aQ (iI e.c):=by
 obtain⟨_,hx⟩:=ck.1 h;have c:l.take i++e::l.drop (i+1)=l:=Cf;have b:O0 (l.take i++e::l.drop (i+1))=O0 (l.take i)++([iI e.a,iI e.b,iI e.c]++O0 (l.drop (i+1))):=by simp[O0]
 rw[c]at b;have d:aA (O0 (l.take i))=i*3:=by rw[qF1,eF];exact mJ
 have a:∀q,q<3->(O0 l)[i*3+q]?=[iI e.a,iI e.b,iI e.c][q]?:=by intro q _;rw[b,du bH,d,show i*3+q-i*3=q by omega,ei bQ]
 exact⟨a 0 bJ,a 1 bJ,a 2 bJ⟩
def ER(w:ao)(v:au)(l:bm):Prop:=aC w 0 303 3 v (aA l) (O0 l)
theorem ER.ext(h:ER w v l)(a:q9 S w w')(b:∀k,aB v=aQ k->¬S k):ER w' v l:=j8 h a b
theorem ER.shape(h:ER w v l):∃a cap,v=aI a (aA l) cap/\∀i e,l[i]?=aQ e->∃g,a=aQ (aD g 0)/\g<w.heap.size/\aE w ⟨g,i*3,aR⟩=aQ (iI e.a)/\aE w ⟨g,i*3+1,aR⟩=aQ (iI e.b)/\aE w ⟨g,i*3+2,aR⟩=aQ (iI e.c):=by have f:=h;rcases h.2 with⟨b,m⟩|⟨g,cap,_,b,_,o,_⟩;refine⟨aR,0,by rw[b,m],λi e c=>?_⟩;have:=(ck.1 c).1;omega;refine⟨_,cap,b,λi e c=>⟨g,rfl,j9 o,?_⟩⟩;have r:=(ck.1 c).1;rw[b]at f;have d:∀q,q<aA l*3->aE w (aD g q)=(O0 l)[q]?:=λq k=>Ha f q k;obtain⟨j,p,n⟩:=qF2 c;exact⟨by rw[d _ bH];exact j,by rw[d _ bH];exact p,by rw[d _ bH];exact n⟩
def oB(v:aV):Array au:=(v.map (fun x=>iI x)).toArray
theorem Lr{v:aV}(h:i<aA v):(oB v)[i]?=aQ (iI (gv v i)):=by simp[oB,gv,h]
theorem qQ6(v:aV)(i:Nat)(x:Int):(oB v).setIfInBounds i (iI x)=oB (v.set i x):=by simp[oB,List.map_set]
theorem jj2(n:Nat):madeCells #[iI 0] n=oB (List.replicate n 0):=by apply Array.ext;simp[madeCells,oB];intro _ _ _;simp[madeCells,oB,Nat.mod_one]
theorem qY9:(prog.info? 3).map (λi=>(i.zero,i.size,i.bytes))=aQ (aQ (iI 0),1,8):=bS
theorem jY1(n:Nat)(h:n<=1000)(w:ao):(Instr.makeSlice 25 (iI ((n:Int)+1)) (iI ((n:Int)+1))).run prog w=.ok (aI (sA w.heap.size) (n+1) (n+1)) (w.alloc (.cells (oB (List.replicate (n+1) 0)) 3)):=by obtain⟨d,f,b,c,a⟩:=cR qY9;have:=run_make (P:=prog) w 25 3 d _ uX f b .i64 .i64 ((n:Int)+1) ((n:Int)+1) bH (zD _) (by rw[a];omega) bH;rw[this,c];have e:((n:Int)+1).toNat=n+1:=bH;rw[e,Nat.mul_one];rw[show(iI 0).cells=#[iI 0]from rfl,jj2]
theorem Ls(l:bm)(e:Ed)(v:aV):eo (l++[e]) v=eT (eo l v) e:=by simp[eo]
theorem qd7(l:bm)(e:Ed):∀v,pV (l++[e]) v=(pV l v&& !(decide (gv (eo l v) e.b+e.c<gv (eo l v) e.a))):=by induction l with|nil=>(intro v;show(!(decide (gv v e.b+e.c<gv v e.a))&&aS)=(aS&& !(decide (gv v e.b+e.c<gv v e.a)));simp)|cons x l a=>intro v;show pV (x::(l++[e])) v=_;unfold pV;rw[a (eT v x),Bool.and_assoc];rfl
def rF(n t:Nat)(v:aV):Prop:=aA v=n/\∀ i,-(1001*(t:Int))<=gv v i/\gv v i<=0
theorem rF.eT{v:aV}(h:rF n t v)(c:-1001<=e.c)(b:e.a<n):rF n (t+1) (eT v e):=by refine⟨by rw[tq];exact h.1,λi=>?_⟩;have f:=h.2 i;have d:=h.2 e.b;have g:=h.2 e.a;unfold Ar.eT;split;by_cases a:e.a=i;subst a;rw[Hb (by rw[h.1];exact b)];omega;rw[M8 a];omega;omega
theorem rF.I{s:Nat}{v:aV}(h:rF n t v)(a:t<=s):rF n s v:=⟨h.1,λi=>by have:=h.2 i;omega⟩
def R1(w:ao)(nT:Nat)(l:bm)(e:Ending)(w':ao):Prop :=
 eX w w'/\((¬(∃ u,dI l u)/\e=aH (aL #[ae,aN aT])) \/
  ∃ (v:aV) (g:Nat),dI l (gv v)/\rF (nT+1) 20000 v/\e=aH (aL #[az g (nT+1) (nT+1),aN aS])/\w.heap.size<=g/\w'.heap[g]?=aQ (.cells (oB v) 3))
structure pF(w:World)(g n k j:Nat)(l:bm)(v:aV)(st:Bool)(wr:World):Prop where
 ext:eX w wr
 row:wr.heap[g]?=aQ (.cells (oB (eo (l.take j) v)) 3)
 st:pV (l.take j) v=st
 low:rF n (k*aA l+j) (eo (l.take j) v)
theorem pF.drewN{v:aV}(h:pF w g n k j l v b wr)(m:Nat):pF w g n k j l v b (wr.drewN m):=⟨h.ext.drewN m,h.row,h.st,h.low⟩
theorem pF.drew{v:aV}(h:pF w g n k j l v b wr):pF w g n k j l v b wr.drew:=⟨h.ext.drew,h.row,h.st,h.low⟩
theorem H8{α:Type}{l:List α}{e:α}(a:l[j]?=aQ e):l.take (j+1)=l.take j++[e]:=by rw[fH,a];rfl
theorem jY2{v:aV}(h:pF w g n k j l v b wr)(d:l[j]?=aQ e)(s:w.heap.size<=g)(i:iS n l)(c:gv (eo (l.take j) v) e.a=xa)(a:gv (eo (l.take j) v) e.b=xb)(m:xb+e.c<xa):pF w g n k (j+1) l v aT (wr.setCell (aD g e.a) (iI (xb+e.c))):=by
 obtain⟨q,_,r,id⟩:=i e (cm d);have o:eT (eo (l.take j) v) e=(eo (l.take j) v).set e.a (xb+e.c):=by unfold eT;rw[c,a,bO m]
 refine⟨h.ext.setCell (p:=(aD g e.a)) (λf=>absurd f (by show ¬g<w.heap.size;omega)) _,?_,?_,?_⟩;rw[H8 d,Ls,o,<-qQ6];exact X6 h.row e.a _;rw[H8 d,qd7,c,a];simp[m];rw[H8 d,Ls];exact h.low.eT r q
theorem jN5{v:aV}(h:pF w g n k j l v b wr)(d:l[j]?=aQ e)(c:gv (eo (l.take j) v) e.a=xa)(a:gv (eo (l.take j) v) e.b=xb)(f:¬xb+e.c<xa):pF w g n k (j+1) l v b wr:=by
 have i:eT (eo (l.take j) v) e=eo (l.take j) v:=by unfold eT;rw[c,a,bL f]
 refine⟨h.ext,?_,?_,?_⟩;rw[H8 d,Ls,i];exact h.row;rw[H8 d,qd7,c,a,h.st];simp[f];rw[H8 d,Ls,i];exact h.low.I bH
theorem jy7{v:aV}(h:pF w w.heap.size (nT+1) k j l v aS wr)(d:aA l<=j)(o:k<=nT+1)(p:nT<=12)(f:aA l<=1000)(g:j<=aA l):R1 w nT l (aH (aL #[aI (sA w.heap.size) (nT+1) (nT+1),ah])) wr:=by have e:l.take j=l:=cZ d;have c:=h.st;have b:=h.row;have a:=h.low;rw[e]at c b a;obtain⟨n,i⟩:=jl2 c;rw[n]at b a;have m:k*aA l<=14*1000:=Nat.mul_le_mul bH f;exact⟨h.ext,.inr ⟨v,w.heap.size,i,a.I bH,rfl,cj _,b⟩⟩
theorem Zc7{v:aV}(h:pF w w.heap.size (nT+1) k j l v aT wr)(g:aA l<=j)(f:j<=aA l)(i:k<nT+2)(d:oK l (nT+2-k) v=oK l (nT+2) (List.replicate (nT+1) 0)):wr.heap[w.heap.size]?=ad (oB (eo l v)) 3/\rF (nT+1) ((k+1)*aA l) (eo l v)/\oK l (nT+2-(k+1)) (eo l v)=oK l (nT+2) (List.replicate (nT+1) 0):=by
 have e:l.take j=l:=cZ g;have c:=h.st;have b:=h.row;have a:=h.low;rw[e]at c b a;refine⟨b,?_,?_⟩;have:(k+1)*aA l=k*aA l+j:=by rw[CE];omega
 rw[this];exact a;rw[<-d,show nT+2-k=(nT+2-(k+1))+1 by omega];conv=>rhs;unfold oK
 rw[c,bL bJ]
theorem jN6{v:aV}(c:eX w wr)(a:iS (nT+1) l)(b:oK l 0 v=oK l (nT+2) (List.replicate (nT+1) 0)):R1 w nT l (aH (aL #[ae,af])) wr:=by refine⟨c,.inl ⟨λd=>?_,rfl⟩⟩;exact qG3 a d (by rw[<-b];rfl)
theorem qn6{wb W:Nat}{ta:Option Addr}{lv:au}(h0:aE w (aD wb 0)=aQ (aI ta nT W))(z:ER w lv l)(C:iS (nT+1) l)(Q:aA l<=1000)(hn:nT<=12):cP 166 #[pT wb,lv] w (R1 w nT l):=by
 obtain⟨_,_,rfl,c⟩:=z.shape;obtain⟨A,s⟩:=bM c C;have hm:=jY1 nT bH;clear z c C;delta cP;go_in;go_wp2;go_loopw [8](λr wr=>∃(k:Nat)(v:aV),k<=nT+2/\r=iI k/\eX w wr/\wr.heap[w.heap.size]?=ad (oB v) 3/\rF (nT+1) (k*aA l) v/\oK l (nT+2-k) v=oK l (nT+2) (List.replicate (nT+1) 0))(λr _=>nT+2-(intOf r).toNat);case atStart=>exact⟨0,List.replicate (nT+1) 0,bH,rfl,(rr w).alloc _,bR w _,⟨bK,λi=>by rw[Na];omega⟩,bK⟩
 case round=>obtain⟨k,v,_,rfl,z,f,a,h⟩:=hrel;obtain⟨O,K,u,y⟩:=cK z f a h;clear z f a h hm h0;by_cases H:k<nT+2;{obtain⟨R,G⟩:∃R,R=wr:=⟨_,rfl⟩;subst G;go_wp2;go_loopw [9,10](λst i wq=>∃(j:Nat)(b:Bool),j<=aA l/\i=iI j/\st=aN b/\pF w w.heap.size (nT+1) k j l v b wq)(λ_ i _=>aA l-(intOf i).toNat);(case atStart=>exact⟨0,aS,bH,rfl,rfl,O,by simpa[eo]using K.o,by simp[pV],by simpa[eo]using u.o⟩);case round=>obtain⟨j,b,N,rfl,rfl,P⟩:=hrel;have n:=q8 P;clear P;by_cases E:j<aA l;{obtain⟨e,F⟩:∃e,l[j]?=aQ e:=⟨_,bZ E⟩;obtain⟨g,rfl,o,U,Y,e2⟩:=A j e F;rw[<-n.o.ext.cell (p:=⟨g,j*3,aR⟩) o id]at U;rw[<-n.o.ext.cell (p:=⟨g,j*3+1,aR⟩) o id]at Y;rw[<-n.o.ext.cell (p:=⟨g,j*3+2,aR⟩) o id]at e2;obtain⟨ia,ib,_,id⟩:=s e (cm F);obtain⟨V,J⟩:∃V,eo (l.take j) v=V:=⟨_,rfl⟩;have c:=n.o.row;have a:=n.o.low;rw[J]at c a;have L:k*aA l<=14*1000:=Nat.mul_le_mul bH Q;have ba:=a.2 e.a;have bb:=a.2 e.b;have ca:aE wr (aD w.heap.size e.a)=aQ (iI (gv V e.a)):=by{rw[z7 c,Lr (by rw[a.1];exact ia)]};have cb:aE wr (aD w.heap.size e.b)=aQ (iI (gv V e.b)):=by{rw[z7 c,Lr (by rw[a.1];exact ib)]};have fa:=Q9 c e.a;obtain⟨xa,q⟩:∃xa,gv V e.a=xa:=⟨_,rfl⟩;obtain⟨xb,t⟩:∃xb,gv V e.b=xb:=⟨_,rfl⟩;rw[q]at ca ba;rw[t]at cb bb;have I:-20000000<=xa/\xa<=0:=bH;have M:-20000000<=xb/\xb<=0:=bH;obtain⟨_,_⟩:=I;obtain⟨_,_⟩:=M;have Z:=j9 c;obtain⟨_,_,T,x,D,B⟩:=gq c a J q t F;clear c a J q t F ba bb L;by_cases S:xb+e.c<xa;{go_wp2;go_quiet (fail);go_wp2;go_region;all_goals go_wp2;go_roundw;(case measure=>exact ch);case rel=>refine⟨j+1,aT,bH,bW,rfl,?_⟩;have d:=x.o;have m:=D.o;rw[<-T.o]at d m;exact jY2 ((n.drewN _).drew) B (cj _) s d m S};have ep:xa<=xb+e.c:=bH;clear S;go_wp2;go_quiet (fail);go_wp2;go_roundw;(case measure=>exact ch);case rel=>refine⟨j+1,b,bH,bW,rfl,?_⟩;have d:=x.o;have m:=D.o;rw[<-T.o]at d m;exact jN5 (n.drewN _) B d m bH};cases b with|true=>(go_wp2;go_ret2;exact jy7 n.o bH bH hn Q N)|false=>go_wp2;go_roundw;(case measure=>exact ch);case rel=>obtain⟨h1,h2,X⟩:=Zc7 n.o bH N H y.o;exact⟨k+1,_,bH,bW,n.o.ext,h1,h2,X⟩};go_wp2;go_ret2;have h:=y.o;rw[show nT+2-k=0 by omega]at h;exact jN6 O s h
def FR(w:ao)(v:au)(T:aY):Prop:=∃ a:List ax,SR w v a/\a.map ByteArray.toList=T.map Z0
theorem FR.ext(h:FR w v T)(e:q9 S w w')(b:∀k,aB v=aQ k->¬S k):FR w' v T:=by obtain⟨d,c,a⟩:=h;exact⟨d,c.ext e b,a⟩
theorem FR.shape(h:FR w v T):∃a cap,v=aI a (aA T) cap/\∀i x,T[i]?=aQ x->∃(g:Nat)(s:ax),a=aQ (aD g 0)/\g<w.heap.size/\aE w (aD g i)=aQ (ai s)/\s.toList=Z0 x:=by
 obtain⟨d,j,c⟩:=h;obtain⟨a,cap,n,m⟩:=j.shape;have k:aA d=aA T:=by have:=jQ List.length c;exact lO
 refine⟨a,cap,by rw[n,k],λi x e=>?_⟩;have q:=(ck.1 e).1;obtain⟨g,o,f,p⟩:=m bH;obtain⟨s,b⟩:∃s,d[i]?=aQ s:=⟨_,bZ bH⟩;refine⟨g,s,o,f,p i s b,?_⟩;have:=jQ (λl=>l[i]?) c;simp[b,e]at this;exact dC
def NR(w:ao)(D:aj)(v:au)(T:aY):Prop:=∃ kids:List Nat,aA kids=aA T/\aC w 0 172 1 v (aA T) (kids.map kp)/\∀ (i b:Nat) (x:Nd),kids[i]?=aQ b->T[i]?=aQ x->RN w D b x
theorem NR.ext(h:NR w D v T)(c:q9 S w w')(e:∀k,aB v=aQ k->¬S k)(j:∀k,k<w.heap.size->D k->¬S k):NR w' D v T:=by obtain⟨kids,f,d,g⟩:=h;exact⟨kids,f,j8 d c e,λi b x hb a=>(g i b x hb a).ext c j⟩
theorem NR.shape(h:NR w D v T):∃a cap,v=aI a (aA T) cap/\∀i x,T[i]?=aQ x->∃(g b:Nat),a=aQ (aD g 0)/\g<w.heap.size/\aE w (aD g i)=aQ (pT b)/\RN w D b x:=by obtain⟨kids,_,c,f⟩:=h;have d:=c;rcases c.2 with⟨hv,e0⟩|⟨g,cap,_,hv,_,e,_⟩;exact ZgO;refine⟨_,cap,hv,λi x hx=>?_⟩;have k:=(ck.1 hx).1;obtain⟨b,hb⟩:∃b,kids[i]?=aQ b:=⟨_,bZ bH⟩;refine⟨g,b,rfl,j9 e,?_,f i b x hb hx⟩;rw[hv]at d;have j:=Ha d i bH;rw[j,dN,hb];rfl
theorem RN.cells{b:Nat}{k:Int}{v:Int}{ps:aY}(h:RN w D b (.mk k wd v ps)):∃(pv:au)(form:ax),w.heap[b]?=ad #[ai (dh k wd v),pv,iI (xT k v ps),aN (fq k),ai form] 235/\form.toList=Z0 (.mk k wd v ps)/\NR w D pv (X2 k ps):=by cases h with|mk hb e c a f d=>rename_i pv form kids;refine⟨pv,form,hb,c,kids,?_,a,d⟩;have:=a.1;simpa using this
section
variable{w:ao}{wb:Nat}{T:aY}
theorem R8{b:Nat}{x:Nd}(H:aE w (aD wb 0)=aQ tv)(r:FR w tv T)(A:T.Nodup)(h:∀y∈T,Y2 y)(z:x∈T)(hb:RN w D b x)(I:aA T<=1000):cP 205 #[pT wb,pT b] w λe w'=>e=aH (iI (idx T x))/\∃n,w'=w.drewN n:=by
 obtain⟨_,_,rfl,a⟩:=r.shape;obtain⟨_,_,_,_,f,g,t⟩:=hb.form;have c4:=z7 g 4;obtain⟨d,q,HX,c,F⟩:=eS a t z h A;clear r a hb g t z h A;delta cP;go_in;go_wp2;go_loopw [5](λi wr=>∃k m:Nat,k<=aA T/\i=iI k/\wr=w.drewN m/\¬x∈T.take k)(λi _=>aA T-(intOf i).toNat);case atStart=>exact⟨0,0,cf _,rfl,rfl,bK⟩
 case round=>obtain⟨k,m,_,rfl,rfl,C⟩:=hrel;have HA:=q8 C;clear C;by_cases j:k<aA T;{obtain⟨y,l⟩:∃y,T[k]?=aQ y:=⟨_,bZ j⟩;obtain⟨_,s,rfl,_,_,v⟩:=d k y l;obtain⟨u,p⟩:=bM v l;clear v l;cases hq:(s.toList==f.toList)with|true=>(go_wp2;go_quiet (fail);go_wp2;go_ret;refine⟨?_,m+nq,(World.drewN_drewN _ _ _).z (by first|(rfl)|(rw[Nat.add_comm]))⟩;have G:Z0 y=Z0 x:=by{rw[<-u.o,<-q.o];exact mI};have E:=Ow (c.o y (cm p.o)) (c.o x HX.o) G;have B:=p.o;rw[E]at B;rw[vQ F.o B];rfl)|false=>go_wp2;go_quiet (fail);go_wp2;go_roundw;(case measure=>exact ch);case rel=>refine⟨k+1,m+nq,bH,bW,rfl,?_⟩;rw[H8 p.o,da];rintro(h1|h1);exact HA.o h1;simp at h1;subst h1;rw[u.o,q.o]at hq;simp at hq};exact Zma
end
def fA(w:ao)(D:aj)(v:au)(c:List (bm)):Prop:=∃ vs:ak,aA vs=aA c/\aC w 0 243 1 v (aA c) vs/\(∀ k,aB v=aQ k->D k)/\∀ (i:Nat) (u:au) (l:bm),vs[i]?=aQ u->c[i]?=aQ l->ER w u l/\∀ k,aB u=aQ k->D k
theorem fA.ext(h:fA w D v c)(g:q9 S w w')(j:∀k,D k->¬S k):fA w' D v c:=by obtain⟨vs,n,m,f,d⟩:=h;exact⟨vs,n,j8 m g (λk a=>j k (f k a)),f,λi u l e b=>⟨(d i u l e b).1.ext g (λk a=>j k ((d i u l e b).2 k a)),(d i u l e b).2⟩⟩
theorem fA.I(h:fA w D v c)(b:∀k,D k->E k):fA w E v c:=by obtain⟨vs,j,g,m,e⟩:=h;exact⟨vs,j,g,λk a=>b k (m k a),λi u l f d=>⟨(e i u l f d).1,λk a=>b k ((e i u l f d).2 k a)⟩⟩
theorem fA.shape(h:fA w D v c):∃a cap,v=aI a (aA c) cap/\∀i l,c[i]?=aQ l->∃(g:Nat)(u:au),a=aQ (aD g 0)/\g<w.heap.size/\aE w (aD g i)=aQ u/\ER w u l/\∀k,aB u=aQ k->D k:=ZkY
def CR(w:ao)(D:aj)(v:au)(cs:List (List (bm))):Prop:=∃ vs:ak,aA vs=aA cs/\aC w 0 334 1 v (aA cs) vs/\(∀ k,aB v=aQ k->D k)/\∀ (i:Nat) (u:au) (c:List (bm)),vs[i]?=aQ u->cs[i]?=aQ c->fA w D u c
theorem CR.ext(h:CR w D v cs)(b:q9 S w w')(d:∀k,D k->¬S k):CR w' D v cs:=by obtain⟨vs,j,f,a,g⟩:=h;exact⟨vs,j,j8 f b (λk e=>d k (a k e)),a,λi u c l m=>(g i u c l m).ext b d⟩
theorem CR.I(h:CR w D v cs)(a:∀k,D k->E k):CR w E v cs:=by obtain⟨vs,f,d,j,e⟩:=h;exact⟨vs,f,d,λk b=>a k (j k b),λi u c g l=>(e i u c g l).I a⟩
theorem CR.shape(h:CR w D v cs):∃a cap,v=aI a (aA cs) cap/\∀i c,cs[i]?=aQ c->∃(g:Nat)(u:au),a=aQ (aD g 0)/\g<w.heap.size/\aE w (aD g i)=aQ u/\fA w D u c:=ZkY
theorem zf{size e:Nat}{cs:ak}(h:W.heap[g]?=ad cs.toArray e)(a:n<=maxLen)(hl:aA cs=n*size):aC W 0 e size (az g n n) n cs:=by refine⟨hl,.inr ⟨g,n,cs.toArray,rfl,cf _,h,cj _,a,UE,cZ (l:=cs) (i:=n*size) (Nat.le_of_eq hl)⟩⟩
theorem zV9(w:ao)(c b a:Obj):(((w.alloc c).alloc b).alloc a).heap[w.heap.size+1+1]?=aQ a:=by have:=bR ((w.alloc c).alloc b) a;exact lO
section
variable{w:ao}
def jN7(w:ao)(a b:Nat)(e:Ending)(w':ao):Prop:=∃ v,e=aH v/\eX w w'/\ER w' v [⟨a,b,0⟩,⟨b,a,0⟩]/\∀ k,aB v=aQ k->w.heap.size<=k
theorem jT6(a b:Nat):cP 203 #[iI a,iI b] w (jN7 w a b):=by delta cP;go_in;go_wp2;go_ret;refine⟨_,rfl,(rr w).alloc _,zf (bR w _) cN rfl,λ_ hk=>?_⟩;exact pH
def jY3(w:ao)(a b:Nat)(e:Ending)(w':ao):Prop:=∃ v,e=aH v/\eX w w'/\fA w' (fun k=>w.heap.size<=k) v [[⟨a,b,-1⟩],[⟨b,a,-1⟩]]
theorem qn7(a b:Nat):cP 204 #[iI a,iI b] w (jY3 w a b):=by delta cP;go_in;go_wp2;go_ret;refine⟨_,rfl,(((rr w).alloc _).alloc _).alloc _,[aI (sA w.heap.size) 1 1,aI (sA (w.heap.size+1)) 1 1],rfl,zf (zV9 w _ _ _) cN rfl,λk hk=>?_,λi _ _ hu c=>?_⟩;exact pH;match i,hu,c with|0,hu,c=>{simp at hu c;subst hu c;refine⟨zf (cU _ _ bQ|>.trans ((cU _ _ bK).z (bR w _))) cN rfl,λk hk=>?_⟩;exact pH}|1,hu,c=>{simp at hu c;subst hu c;refine⟨zf ((cU _ _ bK).z (heap_alloc2_new w _ _)) cN rfl,λk hk=>?_⟩;exact pH}|i+2,hu,c=>exact Co
def jy8(w:ao)(T:aY)(x:Nd)(a:Bool)(e:Ending)(w':ao):Prop :=
 ∃ v u,e=aH (aL #[v,u])/\eX w w'/\ER w' v (oi T x a)/\(∀ k,aB v=aQ k->w.heap.size<=k)/\CR w' (fun k=>w.heap.size<=k) u (o9 T x a)
theorem CR.nil(w:ao)(D:aj):CR w D (ae) []:=⟨[],rfl,fB _ _ _ _,λ_ a=>absurd a gp,λ_ _ _ hu=>Co⟩
theorem xe(a b:Nat)(c:Int)(e:eX w W):ER (W.alloc (.cells #[iI a,iI b,iI c] 303)) (aI (sA W.heap.size) 1 1) [⟨a,b,c⟩]/\∀k,aB (Value.slice (sA W.heap.size) 1 1)=aQ k->w.heap.size<=k:=by refine⟨zf (bR W _) cN rfl,λk d=>?_⟩;simp[Value.ownBlock]at d;have:=e.size;omega
theorem jj3{a:ao}(e:eX w W)(d:eX W a)(h:fA a (λk=>W.heap.size<=k) v c):CR (a.alloc (.cells #[v] 334)) (λk=>w.heap.size<=k) (aI (sA a.heap.size) 1 1) [c]:=by have s1:=e.size;have s3:=d.size;refine⟨[v],rfl,zf (bR a _) cN rfl,λk hk=>?_,λi _ _ hu b=>?_⟩;exact pH;match i,hu,b with|0,hu,b=>{simp at hu b;subst hu b;exact(h.I (λk hk=>dm s1 hk)).ext ((eR a).alloc _) (λ_ _ f=>f)}|i+1,hu,_=>exact Co
theorem ER.nil(w:ao):ER w (ae) []:=fB _ _ _ _
theorem uD(k:Nat)(P:Prop):aB (ae)=aQ k->P:=λh=>absurd h gp
theorem jN8(a b:Nd)(r:aY):X2 2 (a::b::r)=[a,b]:=by simp[X2]
theorem jN9(v:Int)(a b:Nd)(r:aY)(h:r=[]\/∃c w,r=[.mk 5 w c []]):xT 2 v (a::b::r)=eB r:=by rcases h with rfl|⟨c,w,rfl⟩<;>simp[xT,eB]
section
variable{wb:Nat}{T:aY}
theorem jO0{l:aU}(h:(l=[61]\/l=[60]\/l=[60,61])\/l=gG):((l==[60])=aT/\(l==[61])=aS/\l=[61])\/((l==[60])=aS/\(l==[61])=aT/\l=[60])\/((l==[60])=aT/\(l==[61])=aT/\¬l=[61]/\¬l=[60]):=by rcases h with(rfl|rfl|rfl)|rfl<;>decide
theorem qd9{b:Nat}{n:Int}{p q:Nd}{r:aY}(l:Bool)(h0:aE w (aD wb 0)=aQ tv)(O:FR w tv T)(R:T.Nodup)(v:∀y∈T,Y2 y)(V:aA T<=1000)(hb:RN w D b (.mk 2 wd n (p::q::r)))(hp:p∈T)(hq:q∈T)(hr:r=[]\/∃c w,r=[.mk 5 w c []])(M:-1000<=eB r/\eB r<=1000)(U:(wd.toList=[61]\/wd.toList=[60]\/wd.toList=[60,61])\/wd.toList=gG):cP 169 #[pT wb,pT b,aN l] w (jy8 w T (.mk 2 wd n (p::q::r)) l):=by
 obtain⟨_,_,u,hf,x⟩:=hb.cells;rw[jN8]at x;rw[jN9 n p q r hr,show dh 2 wd n=wd by exact pL]at u;obtain⟨_,_,rfl,o⟩:=x.shape;obtain⟨_,_,rfl,L,k1,I⟩:=o 0 p rfl;obtain⟨_,b2,e,_,k2,G⟩:=o 1 q rfl;cases e;obtain⟨c0,c1,c2⟩:=dT u 0 1 2;obtain⟨z1,z2⟩:=M;have F:=q8 (R8 (wb:=wb) h0 O R v hp I V);have C:Hid (∀m,cP 205 #[pT wb,pT b2] (w.drewN m) λe w'=>e=aH (iI (idx T q))/\∃n,w'=(w.drewN m).drewN n):=λm=>R8 (wb:=wb) h0 (O.ext ((eR w).drewN m) (λ_ _ f=>f)) R v hq (G.ext ((eR w).drewN m) (λ_ _ _ f=>f)) V;have N:=jO0 U;obtain⟨g,s⟩:∃g,idx T p=g:=⟨_,rfl⟩;obtain⟨d,t⟩:∃d,idx T q=d:=⟨_,rfl⟩;have P:∀l,oi T (.mk 2 wd n (p::q::r)) l=nk g d wd.toList (eB r) l:=by intro l;simp only[oi,s,t]
 have Y:∀l,o9 T (.mk 2 wd n (p::q::r)) l=np g d wd.toList l:=by intro l;simp only[o9,s,t]
 rw[s]at F;rw[t]at C;obtain⟨c,S⟩:∃c,eB r=c:=⟨_,rfl⟩;rw[S]at c2 z1 z2 P;obtain⟨z,A⟩:=bM P Y;clear hb u hf x o I G O R v hp hq hr U s t P Y S L;have HX:Hid (∀m k,eX w ((w.drewN m).drewN k)):=λm k=>((rr w).drewN m).drewN k;rcases N with⟨q1,X,i⟩|⟨q1,X,i⟩|⟨q1,X,i,q4⟩<;>cases l;all_goals delta cP;go_in;go_wp2_with fail;refine F.I ?_;rintro e w1 ⟨rfl,Q,rfl⟩;go_wp2_with fail;refine(C Q).I ?_;rintro e w1 ⟨rfl,Z,rfl⟩;obtain⟨W,H⟩:∃W,(w.drewN Q).drewN Z=W:=⟨_,rfl⟩;have a:Hid (eX w W):=by{rw[<-H];exact HX Q Z};have d0:aE W (aD b 0)=aQ (ai wd):=by{rw[<-H];exact c0};have d2:aE W (aD b 2)=aQ (iI c):=by{rw[<-H];exact c2};rw[H];clear H c0 c1 c2 k1 k2 HX;go_wp2_with(first|(go_at_call 203;refine(jT6 _ _).I ?_;rintro e w3 ⟨v3,rfl,j,h,E⟩;obtain⟨a3,B,rfl,_⟩:=h.shape;have J:=q8 j;have K:=q8 h;have H5:=q8 E;clear j h E)|(go_at_call 204;refine(qn7 _ _).I ?_;rintro e w3 ⟨v3,rfl,j,h⟩;obtain⟨a3,B,rfl,_⟩:=h.shape;have J:=q8 j;have K:=q8 h;clear j h));go_ret2
 refine⟨_,_,rfl,(a.z J).alloc _,?_,?_,?_⟩;rw[z.o,i];exact ER.nil _;exact λk=>uD k _;rw[A.o,i];exact jj3 a J K;refine⟨_,_,rfl,a.z J,?_,?_,?_⟩;rw[z.o,i];exact K;exact λk N=>dm a.size (H5 k N);rw[A.o,i];exact GK;refine⟨_,_,rfl,a.alloc _,?_,(xe d g 0 a).2,?_⟩;rw[z.o,i];exact(xe d g 0 a).1;rw[A.o,i];exact GK;refine⟨_,_,rfl,a.alloc _,?_,(xe g d (-1) a).2,?_⟩;rw[z.o,i];exact(xe g d (-1) a).1;rw[A.o,i];exact GK;refine⟨_,_,rfl,a.alloc _,?_,(xe d g (-c-1) a).2,?_⟩;rw[z.o,show nk g d wd.toList c aT=[⟨d,g,-c-1⟩]by simp[nk,i,q4]];exact(xe d g (-c-1) a).1;rw[A.o,show np g d wd.toList aT=[]by simp[np,i]];exact GK;refine⟨_,_,rfl,a.alloc _,?_,(xe g d c a).2,?_⟩;rw[z.o,show nk g d wd.toList c aS=[⟨g,d,c⟩]by simp[nk,i,q4]];exact(xe g d c a).1;rw[A.o,show np g d wd.toList aS=[]by simp[np,i]];exact GK
end
end
open Classical in
noncomputable def R9(u:Nat->Int)(c:List (bm)):Bool:=decide (CH u c)
open Classical in
theorem qZ0(h:CH u c):R9 u c=aS:=ig h
open Classical in
theorem jy9(h:¬CH u c):R9 u c=aT:=iE h
theorem jj4{vs:aV}{u:au}(hu:fA w D u c)(hv:w.heap[g]?=ad (oB vs) 3)(v:rF n 20000 vs)(R:∀a∈c,iS n a)(hc:aA c<=1000)(P:∀a∈c,aA a<=1000):cP 206 #[.agg #[u],az g n n] w λe w'=>e=aH (aN (R9 (gv vs) c))/\eX w w':=by
 obtain⟨ua,uc,rfl,y⟩:=hu.shape;have eZ:=j9 hv;obtain⟨HV,G,L,R',Z⟩:=eS hv v y R P;clear hu hv v y R P;delta cP;go_in;go_wp2;go_loopw [5](λi wr=>∃k:Nat,k<=aA c/\i=iI k/\eX (w.alloc (.cells #[aI ua (aA c) uc] 334)) wr/\∀a∈c.take k,¬dI a (gv vs))(λi _=>aA c-(intOf i).toNat);case atStart=>exact UZ
 case round=>obtain⟨k,_,rfl,U,H⟩:=hrel;have kb:wr.heap[w.heap.size]?=ad #[aI ua (aA c) uc] 334:=(U.block _ bK id).z (bR w _);have b0:=z7 kb 0;have K:Hid (eX w wr):=((rr w).alloc _).z U;obtain⟨HEB,I⟩:=bM U H;have dK:=j9 kb;clear U H kb;by_cases ct:k<aA c;{obtain⟨a,d⟩:∃a,c[k]?=aQ a:=⟨_,bZ ct⟩;obtain⟨gw,_,rfl,Y,z,T,_⟩:=L k a d;obtain⟨_,_,rfl,o⟩:=T.shape;have C:=cm d;have Zpc:=Z a C;obtain⟨Lt,F,O⟩:=bV o d C;rw[<-K.o.cell (p:=(aD gw k)) Y id]at z;obtain⟨X,ED⟩:∃X,X=wr:=⟨_,rfl⟩;subst ED;clear T o d C;go_wp2;go_loopw [6,7](λst i wq=>∃(j:Nat)(b:Bool),j<=aA a/\i=iI j/\st=aN b/\eX X wq/\(b=aS↔dI (a.take j) (gv vs)))(λ_ i _=>aA a-(intOf i).toNat);(case atStart=>exact⟨0,aS,bH,rfl,rfl,q9.refl _ _,by simp[dI]⟩);case round=>obtain⟨j,b,_,rfl,rfl,s,hb⟩:=hrel;obtain⟨l,HB⟩:=bM s hb;have b0':=(s.cell (p:=(aD w.heap.size 0)) dK id).z b0;have M:gw<X.heap.size:=by{have:=K.o.size;omega};have Zpd:=(s.cell (p:=(aD gw k)) M id).z z;clear s hb b0 z;by_cases S:j<aA a;{obtain⟨e,W⟩:∃e,a[j]?=aQ e:=⟨_,bZ S⟩;obtain⟨ge,rfl,E,e0,e1,e2⟩:=Lt j e W;have m:=K.z l;rw[<-m.cell (p:=⟨ge,j*3,aR⟩) E id]at e0;rw[<-m.cell (p:=⟨ge,j*3+1,aR⟩) E id]at e1;rw[<-m.cell (p:=⟨ge,j*3+2,aR⟩) E id]at e2;obtain⟨ia,ib,_,id⟩:=R' a O e (cm W);have N:=G.o;have V:=(m.block g eZ (λf=>f)).z HV;have ba:=N.2 e.a;have bb:=N.2 e.b;have ca:aE wr (aD g e.a)=aQ (iI (gv vs e.a)):=by{rw[z7 V,Lr (by rw[N.1];exact ia)]};have cb:aE wr (aD g e.b)=aQ (iI (gv vs e.b)):=by{rw[z7 V,Lr (by rw[N.1];exact ib)]};have vz:=j9 V;obtain⟨xa,r⟩:∃xa,gv vs e.a=xa:=⟨_,rfl⟩;obtain⟨xb,t⟩:∃xb,gv vs e.b=xb:=⟨_,rfl⟩;rw[r]at ca ba;rw[t]at cb bb;obtain⟨_,_⟩:=ba;obtain⟨_,_⟩:=bb;have nP:¬g=wr.heap.size:=bH;have J:∀b':Bool,(b'=aS↔(b=aS/\xa<=xb+e.c))->(b'=aS↔dI (a.take (j+1)) (gv vs)):=by{intro b' yK;rw[yK,H8 W,wj,HB.o];constructor;rintro⟨Q,h2⟩;exact⟨Q,λx q=>by simp at q;subst q;rw[r,t];exact h2⟩;rintro⟨Q,h2⟩;have:=h2 e bK;rw[r,t]at this;exact⟨Q,this⟩};have A:=q8 J;clear J r t W V N m;cases b with|true=>(by_cases hq:xa<=xb+e.c;{go_wp2;go_quiet (fail);go_wp2;go_roundw;(case measure=>exact ch);case rel=>exact⟨j+1,aS,bH,bW,rfl,(l.o.alloc _).drewN _,A.o aS (by simp[hq])⟩};have ep:xb+e.c<xa:=bH;clear hq;go_wp2;go_quiet (fail);go_wp2;go_roundw;(case measure=>exact ch);case rel=>exact⟨j+1,aT,bH,bW,by rw[iE bH],(l.o.alloc _).drewN _,A.o aT bQ⟩)|false=>go_wp2;go_quiet (fail);go_wp2;go_roundw;(case measure=>exact ch);case rel=>exact⟨j+1,aT,bH,bW,rfl,(l.o.alloc _).drewN _,A.o aT bK⟩};cases b with|true=>(go_wp2;go_ret;have B:=HB.o.1 (by first|(rfl)|trivial);rw[cZ bH]at B;rw[qZ0 ⟨a,O.o,B⟩];exact⟨rfl,K.o.z l.o⟩)|false=>have B:¬dI a (gv vs):=by{intro h;have:=HB.o.2 (by rw[cZ bH];exact h);exact Vn};have HS:=q8 B;clear B;go_wp2;go_roundw;(case measure=>exact ch);case rel=>refine⟨k+1,bH,bW,HEB.o.z l.o,?_⟩;intro x q;rw[H8 F.o,da]at q;rcases q with q|q;exact I.o x q;simp at q;subst q;exact HS.o};go_wp2;go_ret;rw[jy9 (by rintro⟨a,hm,B⟩;have Q:=I.o a (by rw[cZ bH];exact hm);exact Q B)];exact⟨rfl,K⟩
end Go.Proofs.YtegbdaffhpiacaaGreatDoor
