/- Part. -/
import Derived.Test.YtegbdaffhpiacaaGreatDoorAl06
import Derived.Test.YtegbdaffhpiacaaGreatDoorAl18
set_option maxRecDepth 100000
set_option maxHeartbeats 1000000
open Bool renaming false->aT,true->aS
open ByteArray renaming toList->aF
open Go.Ending renaming returned->aH
open List renaming length->aA
open Option renaming some->aQ
open Go.Value renaming agg->aJ,ownBlock->aB
open Go.World renaming ownsRow->aC
namespace Go.Proofs.YtegbdaffhpiacaaGreatDoor
open Tryz Go.RowKit Ar
section
variable{S D:aj}{w w':ao}{size n e k b nb p:Nat}{v y0 y2 y3:au}{xs:ak}{o:Obj}{W f s:ax}{nd:Nd}{c:Ctx}{d pl err:Int}{t:Tk}{l:aU}{N:a6}{cS:aZ}
theorem j8{base:Nat}{e:TypeId}(h:aC w base e size v n xs)(l:q9 S w w')(f:∀k,aB v=aQ k->¬S k):aC w' base e size v n xs:=by
 obtain⟨i,c⟩:=h;refine⟨i,? _⟩;rcases c with c|⟨g,cap,b,hv,j,d,r⟩;exact Or.inl c;have a:g<w.heap.size:=by by_cases a:g<w.heap.size;exact a;rw[uQ bH]at d;exact absurd d bK
 exact Or.inr ⟨g,cap,b,hv,j,(l.block g a (f g GF)).z d,r⟩
theorem O4(h:aC w 0 e size v n xs)(hk:aB v=aQ k):∃cur,w.heap[k]?=aQ (.cells cur e (0,0)):=by rcases h.2 with⟨e,_⟩|⟨_,_,cur,a,_,hh,_⟩;rw[e]at hk;simp[Value.ownBlock]at hk;rw[a]at hk;exact Zkd
theorem K8{c:Nat}{C:Array au}(h:aC w 0 e size v n xs)(f:w.heap[k]?=ad C c)(a:¬e=c):¬aB v=aQ k:=by intro d;obtain⟨_,b⟩:=O4 h d;rw[f]at b;simp at b;exact a b.2.symm
theorem q9.grown{a:ao}{row:Option Nat}(h:q9 S a w)(b:w.grownBy w' row)(d:∀k,row=aQ k->k<a.heap.size->S k):q9 S a w':=h.z' (T:=λk=>row=aQ k) ⟨b.os,b.tape,b.output,b.size,λk c f=>b.block k c (λe=>f e.symm)⟩ (λi g e=>d i e g)
def kp(k:Nat):au:=pT k
def dh(k:Int)(word:ax)(v:Int):ax:=if k=4 then⟨(itoa v).toArray⟩ else word
def X2(k:Int)(ps:aY):aY:=if k=2 then ps.take 2 else ps
def xT(k:Int)(v:Int)(ps:aY):Int :=
 if k=4 then v else if k=2 then(match ps with|[_,_,.mk _ _ x _]=>x|_=>0) else 0
def fq(k:Int):Bool:=k==3 || k==4
inductive RN(w:World)(D:Nat->Prop):Nat->Nd->Prop
 | mk {b:Nat} {k:Int} {word:ByteArray} {v:Int} {ps:List Nd} {pv:Value} {form:ByteArray} {kids:List Nat}
   (hb:w.heap[b]?=some (.cells #[.string (dh k word v),pv,iI (xT k v ps),.bool (fq k),.string form] 235)) (pZ:D b)
   (hf:form.toList=Z0 (.mk k word v ps)) (fU:w.ownsRow 0 172 1 pv (X2 k ps).length (kids.map kp)) (hD:∀ g,pv.ownBlock=some g->D g)
   (hk:∀ (i c:Nat) (p:Nd),kids[i]?=some c->(X2 k ps)[i]?=some p->RN w D c p):RN w D b (.mk k word v ps)
theorem j9(h:w.heap[b]?=aQ o):b<w.heap.size:=by by_cases a:b<w.heap.size;exact a;rw[uQ bH]at h;exact zA
theorem q9.K{W:ao}(h:eX w W)(e:w.heap[k]?=aQ o):W.heap[k]?=aQ o:=(h.block k (j9 e) id).z e
theorem RN.ext(h:RN w D b nd)(f:q9 S w w')(e:∀k,k<w.heap.size->D k->¬S k):RN w' D b nd:=by induction h with|mk hb a i c g _ j=>exact RN.mk ((f.block _ (j9 hb) (e _ (j9 hb) a)).z hb) a i (j8 c f (λk d=>e k (c.lt k d).2 (g k d))) g j
theorem RN.I{D':aj}(h:RN w D b nd)(d:∀k,k<w.heap.size->D k->D' k):RN w D' b nd:=by induction h with|mk hb c f a j _ i=>exact RN.mk hb (d _ (j9 hb) c) f a (λg e=>d g (a.lt g e).2 (j g e)) i
theorem RN.form(h:RN w D b nd):∃a e j g f,w.heap[b]?=ad #[a,e,j,g,ai f] 235/\f.toList=Z0 nd:=by cases h with|mk hb d c i l k=>exact⟨_,_,_,_,_,hb,c⟩
def Sd(w:ao)(c:Ctx)(d pl:Int):Rs Unit->Prop
 | .ok _ ts=>Rd w c ts d 0 pl
 | .no e p=>(¬e=0)/\∃ ts d',Rd w c ts d' e p
theorem Sd.some{r:Rs Unit}(h:Sd w c d pl r):∃t ts d' e p,Rd w c (t::ts) d' e p:=by cases r with|ok u ts=>(obtain⟨t,a,rfl⟩:=Rd.head h;exact⟨t,a,d,0,pl,h⟩)|no e p=>obtain⟨_,ts,d',h⟩:=h;obtain⟨t,a,rfl⟩:=Rd.head h;exact⟨t,a,d',e,p,h⟩
theorem Sd.ext{r:Rs Unit}(h:Sd w c d pl r)(g:q9 S w w')(b:¬S c.rb)(a:¬S c.tb)(f:¬S c.nb):Sd w' c d pl r:=by cases r with|ok u ts=>(exact Rd.ext h g b a f)|no e p=>obtain⟨i,ts,d',h⟩:=h;exact⟨i,ts,d',h.ext g b a f⟩
theorem Sd.drewN{r:Rs Unit}(h:Sd w c d pl r)(n:Nat):Sd (w.drewN n) c d pl r:=h.ext (S:=λ_=>False) ((rr w).drewN n) id id id
theorem oL.mem{w:ao}{b:Nat}:∀{ts:aZ}{i:Nat},oL w b i ts->TS ts|[],_,_=>λ_ h=>absurd h bK|t::ts,i,h=>λu a=>by rcases oH.1 a with rfl|a;exact h.2.2.1;exact oL.mem h.2.2.2 u a
theorem Rd.ts{ts:aZ}(h:Rd w c ts d err pl):TS ts:=by obtain⟨_,_,_,a,_⟩:=h.here;exact a.mem
theorem Rd.len{ts:aZ}(h:Rd w c ts d err pl):aA ts<=601:=by obtain⟨_,_,_,_,_⟩:=h.here;omega
theorem jH0{r:Rs Unit}(h:Sd w c d pl r):cP 161 #[pT c.rb] w λe w'=>∃s:ax,e=aH (ai s)/\s.size<=600/\(∀u t ts,r=.ok u (t::ts)->s=t.bI)/\∃n,w'=w.drewN n:=by cases r with|ok u ts=>(obtain⟨t,b,rfl⟩:=Rd.head h;refine(J4 h).I ? _;rintro e w' ⟨rfl,n,rfl⟩;exact⟨_,rfl,Rd.ts h t (uR ..),λg f a e=>ZiA,n,rfl⟩)|no e p=>obtain⟨_,ts,_,h⟩:=h;obtain⟨t,b,rfl⟩:=h.head;refine(J4 h).I ? _;rintro e w' ⟨rfl,n,rfl⟩;exact⟨_,rfl,h.ts t (uR ..),λg f a e=>absurd e bK,n,rfl⟩
def kO(N:a6)(b:Bool):Rs Unit->Rs Unit
 | .no e p=>.no e p
 | .ok _ []=>.no 0 0
 | .ok _ (t::ts)=>if U3 N b (aF t.bI)=0 then .ok () ts else .no (U3 N b (aF t.bI)) t.pos
theorem V'{r:Rs Unit}(b:Bool)(h:Sd w c d pl r):cP 197 #[pT c.rb,.bool b] w λs w'=>∃k:Int,s=aH (iI k)/\q9 (·=c.rb) w w'/\Sd w' c d pl (kO c.N b r)/\(∀u t ts i a,r=.ok u (t::ts)->kO c.N b r=.ok i a->k=(k9 c.N (aF t.bI)).getD (-1)):=by cases r with|ok u ts=>(obtain⟨t,_,rfl⟩:=Rd.head h;by_cases f:U3 c.N b (aF t.bI)=0;refine(qR8 b h f).I ? _;rintro e w' ⟨rfl,l,j⟩;refine⟨_,rfl,l,? _,λi m a u2 g e _=>ZiA⟩;simp only[kO,bO f];exact j;refine(qR7 b h f).I ? _;rintro e w' ⟨⟨k,rfl⟩,l,j⟩;refine⟨k,rfl,l,? _,λi m a u2 g e q=>? _⟩;simp only[kO,bL f];exact⟨f,_,_,j⟩;simp only[kO,bL f]at q;exact absurd q bK)|no e p=>obtain⟨o,ts,d',h⟩:=h;refine(qv8 b h o).I ? _;rintro e w' ⟨⟨k,rfl⟩,n,rfl⟩;exact⟨k,rfl,(rr w).drewN n,⟨o,ts,d',h.drewN n⟩,λi m a u2 g e _=>absurd e bK⟩
theorem qr0{ts:aZ}(h:Rd w c (t::ts) d 0 pl)(g:(aF t.bI==[40])=aS):cP 198 #[pT c.rb] w λi w'=>i=aH (.tuple #[])/\q9 (·=c.rb) w w'/\Sd w' c (d+1) pl (if 30<=d then .no 6 t.pos else .ok () ts):=by
 by_cases hd:30<=d;have a:d=30:=by have:=h.pX;omega
 subst a;refine(VU h g).I ? _;rintro e w' ⟨rfl,f,b⟩;refine⟨rfl,f,? _⟩;rw[bO hd];exact⟨bJ,_,_,b⟩;refine(VV h g bH).I ? _;rintro e w' ⟨rfl,f,b⟩;refine⟨rfl,f,? _⟩;rw[bL hd];exact b
def Rs.un{α:Type}:Rs α->Rs Unit
 | .ok _ ts=>.ok () ts
 | .no e p=>.no e p
def V7(w:ao)(c:Ctx)(ts:aZ)(d pl:Int)(r:Rs Nd)(h:Ending)(w':ao):Prop :=
 ∃ (b:Nat) (e i g j:au) (f:ax),h=aH (pT b)/\w.heap.size<=b/\q9 (· = c.rb) w w' /\
  w'.heap[b]?=aQ (.cells #[e,i,g,j,.string f] 235)/\f.size+1<=603*aA ts/\Sd w' c d pl (Rs.un r)/\(∀ nd a,r=.ok nd a->RN w' (w.heap.size <= ·) b nd)
theorem qG0{ts:aZ}{v:Int}(h:Rd w c (t::ts) d 0 pl)(p:numOf (aF t.bI)=aQ v)(a:-1000<=v)(b:v<=1000):cP 159 #[pT c.rb] w (V7 w c (t::ts) d pl (.ok (.mk 4 ay v []) ts)):=by
 have l:=h.small;have H:=q8 h;have k:=vm t.bI;have r:=q8 p;rw[p]at k;have q:=q8 k;clear h p k;delta cP;go_in;go_wp2_with first|(go_at_call 161;refine(J4 H).I ? _;rintro e w' ⟨rfl,m,rfl⟩)|(go_at_call 170;refine(q _ l).I ? _;rintro e w' ⟨rfl,rfl⟩)
 have y:=H.o.dU;have j:eX w ((w.drewN m).alloc (Obj.cells #[ai t.bI,ae,iI 0,ah,ai t.bI] 235)):=((rr w).drewN m).alloc _;refine(V3 (H.ext j id id id) r a b).I ? _;rintro e f ⟨rfl,s,hr⟩;have u:f.heap[w.heap.size]?=ad #[ai t.bI,ae,iI 0,ah,ai t.bI] 235:=(s.block _ (j9 (bR (w.drewN m) _)) eH).z (bR (w.drewN m) _);obtain⟨_,_⟩:=dX u 2 2;go_wp2;go_ret;have n:q9 (·=c.rb) w f:=(j.M).z s;have qO:q9 (·=w.heap.size) f (f.setCell (aD w.heap.size 2) (iI v)):=(q9.refl (·=w.heap.size) f).sc w.heap.size 2 _;have g:=X6 u 2 (iI v);have A:=H.ts t (uR ..);refine⟨w.heap.size,_,_,_,_,t.bI,rfl,cj _,n.z' qO (λi _ e=>bH),g,bQ,? _,? _⟩;exact ZlS;intro _ _ e;injection e with e1 e2;subst e1;have z:dh 4 ay v=t.bI:=by apply O8;rw[dh,bO rfl,oG];exact Nu r a b
 refine RN.mk (pv:=ae) (form:=t.bI) (kids:=[]) ? _ (cj _) ? _ (fB _ _ _ _) (λ_ x=>absurd x gp) (λi c _ h=>absurd h bK);rw[z];exact g;rw[Z0,bL bK,eG,bO (Or.inl rfl)];exact(Nu r a b).symm
theorem qe8{ts:aZ}{v:Int}(h:Rd w c (t::ts) d 0 pl)(k:numOf (aF t.bI)=aQ v)(n:v< -1000\/1000<v):cP 159 #[pT c.rb] w (V7 w c (t::ts) d pl (.no 5 t.pos)):=by
 have i:=h.small;have H:=q8 h;have g:=vm t.bI;obtain⟨u,r⟩:=bM k n;rw[k]at g;have l:=q8 g;clear h k g n;delta cP;go_in;go_wp2_with first|(go_at_call 161;refine(J4 H).I ? _;rintro e w' ⟨rfl,m,rfl⟩)|(go_at_call 170;refine(l _ i).I ? _;rintro e w' ⟨rfl,rfl⟩)
 have s:=H.o.dU;have b:eX w ((w.drewN m).alloc (Obj.cells #[ai t.bI,ae,iI 0,ah,ai t.bI] 235)):=((rr w).drewN m).alloc _;refine(V0 (H.ext b id id id) u r).I ? _;rintro e a ⟨rfl,p,hr⟩;have q:a.heap[w.heap.size]?=ad #[ai t.bI,ae,iI 0,ah,ai t.bI] 235:=(p.block _ (j9 (bR (w.drewN m) _)) eH).z (bR (w.drewN m) _);obtain⟨_,_⟩:=dX q 2 2;go_wp2;go_ret;have j:q9 (·=c.rb) w a:=(b.M).z p;have qO:q9 (·=w.heap.size) a (a.setCell (aD w.heap.size 2) (iI v)):=(q9.refl (·=w.heap.size) a).sc w.heap.size 2 _;have f:=X6 q 2 (iI v);have x:=H.ts t (uR ..);refine⟨w.heap.size,_,_,_,_,t.bI,rfl,cj _,j.z' qO (λ_ _ e=>bH),f,bQ,⟨bJ,t::ts,d,? _⟩,λ_ _ e=>absurd e bK⟩;exact ZlS
def oM(N:a6)(t:Tk)(ts:aZ):Rs Nd :=
 if U3 N aT (aF t.bI)=0 then .ok (.mk 3 t.bI 0 []) ts else .no (U3 N aT (aF t.bI)) t.pos
theorem jl1{ts:aZ}(h:Rd w c (t::ts) d 0 pl)(l:numOf (aF t.bI)=none)(v:(aF t.bI==[40])=aT):cP 159 #[pT c.rb] w (V7 w c (t::ts) d pl (oM c.N t ts)):=by
 have f:=h.small;have H:=q8 h;have b:=vm t.bI;rw[l]at b;have i:=q8 b;clear h l b;delta cP;go_in;go_wp2_with first|(go_at_call 161;refine(J4 H).I ? _;rintro e w' ⟨rfl,m,rfl⟩)|(go_at_call 170;refine(i _ f).I ? _;rintro e w' ⟨rfl,rfl⟩)
 have p:=H.o.dU;have a:eX w ((w.drewN m).alloc (Obj.cells #[ai t.bI,ae,iI 0,ah,ai t.bI] 235)):=((rr w).drewN m).alloc _;refine(V' (r:=.ok () (t::ts)) aT (H.ext a id id id)).I ? _;rintro e j ⟨_,rfl,k,q,_⟩;have n:j.heap[w.heap.size]?=ad #[ai t.bI,ae,iI 0,ah,ai t.bI] 235:=(k.block _ (j9 (bR (w.drewN m) _)) eH).z (bR (w.drewN m) _);go_wp2;go_ret;have g:q9 (·=c.rb) w j:=(a.M).z k;have u:=H.ts t (uR ..);have s:Rs.un (oM c.N t ts)=kO c.N aT (.ok () (t::ts)):=by simp only[oM,kO];split<;>rfl
 refine⟨w.heap.size,_,_,_,_,t.bI,rfl,cj _,g,n,bQ,? _,? _⟩;rw[s];exact q;intro _ _ e;unfold oM at e;split at e;injection e with e1 e2;subst e1;refine RN.mk (pv:=ae) (form:=t.bI) (kids:=[]) n (cj _) ? _ (fB _ _ _ _) (λ_ o=>absurd o gp) (λ_ c _ h=>absurd h bK);rw[Z0,bL bK,eG,bL bJ];exact cF
theorem tC(h:f.toList=l):f.size=aA l:=by rw[<-Z6,h]
theorem X1(a b:ax):(a++b).toList=a.toList++b.toList:=by rw[oG,oG,oG,ByteArray.data_append,Array.toList_append]
def Nz(w:ao)(c:Ctx)(D pl:Int)(F:aZ->Rs Nd)(hd:aU)(cS:aZ)(wr:ao)(j:Nat)(pv:au)(f:ax)(a:aZ)(ps:aY)(kids:List Nat):Prop :=
 J5 (List.replicate j F) cS=.ok ps a/\Rd wr c a D 0 pl/\f.toList=hd++J0 ps/\aC wr 0 172 1 pv j (kids.map kp)/\(∀ g,aB pv=aQ g->w.heap.size<g) /\
  ∀ (i b:Nat) (p:Nd),kids[i]?=aQ b->ps[i]?=aQ p->RN wr (fun q=>w.heap.size<q/\aB pv≠aQ q) b p
theorem NA{D:Int}{hd:aU}{wr wc d o:ao}{j:Nat}{pv h:au}{y:ax}{ps:aY}{kids:List Nat}{I P H N:au}{r:Rs Nd}(V:q9 (·=c.rb) w wr)(dG:c.rb<w.heap.size)(dD:c.tb<w.heap.size)(eU:c.nb<w.heap.size)(t:aC wr 0 172 1 pv j (kids.map kp))(p4:∀g,aB pv=aQ g->w.heap.size<g)(x:∀(i b:Nat)(p:Nd),kids[i]?=aQ b->ps[i]?=aQ p->RN wr (λq=>w.heap.size<q/\aB pv≠aQ q) b p)(A:aA ps=j)(hf:f.toList=hd++J0 ps)(Z:wr.heap[w.heap.size]?=ad #[y0,pv,y2,y3,ai f] 235)(U:eX wr wc)(hb:wc.heap.size<=b)(T:q9 (·=c.rb) wc d)(bb:d.heap[b]?=ad #[I,P,H,N,ai y] 235)(X:Sd d c D pl (Rs.un r))(hr:∀nd l,r=.ok nd l->RN d (wc.heap.size<=·) b nd)(O:Obj)(s:aC o 0 172 1 h (j+1) (kids.map kp++[kp b]))(J:(d.alloc O).grownBy o (aB pv))(cu:aB h=aB pv\/aB h=aQ (d.heap.size+1)):o.heap[w.heap.size]?=ad #[y0,pv,y2,y3,ai f] 235/\o.heap[b]?=ad #[I,P,H,N,ai y] 235/\¬b=w.heap.size/\(∃g cap,h=az g (j+1) cap/\w.heap.size<g/\¬g=b)/\∀(W:ao),q9 (·=w.heap.size) o W->W.heap[w.heap.size]?=ad #[y0,h,y2,y3,ai (f++⟨#[32]⟩++y)] 235->q9 (·=c.rb) w W/\Sd W c D pl (Rs.un r)/\(∀g,aB h=aQ g->w.heap.size<g)/\aC W 0 172 1 h (j+1) ((kids++[b]).map kp)/\(∀nd l,r=.ok nd l->(f++⟨#[32]⟩++y).toList=hd++J0 (ps++[nd])/\∀(i q:Nat)(p:Nd),(kids++[b])[i]?=aQ q->(ps++[nd])[i]?=aQ p->RN W (λq=>w.heap.size<q/\aB h≠aQ q) q p):=by
 have sz1:=V.size;have sz2:=U.size;have sz3:=T.size;have kx:w.heap.size<wr.heap.size:=j9 Z;have u:∀g,aB pv=aQ g->g<wr.heap.size:=λg J=>(t.lt g J).2;have F:b<d.heap.size:=j9 bb;have v:q9 (·=c.rb) wr d:=(U.M).z T;have n:q9 (λk=>aB pv=aQ k) d o:=((q9.refl (λk=>aB pv=aQ k) d).alloc O).grown J (λk hk _=>hk);have kt:d.heap[w.heap.size]?=ad #[y0,pv,y2,y3,ai f] 235:=(v.block _ kx eH).z Z;have nx:¬aB pv=aQ w.heap.size:=λe=>Us;have B:¬aB pv=aQ b:=λe=>by have:=u _ e;omega
 have ka:o.heap[w.heap.size]?=ad #[y0,pv,y2,y3,ai f] 235:=(n.block _ bH nx).z kt;have R:o.heap[b]?=ad #[I,P,H,N,ai y] 235:=(n.block _ F B).z bb;have m:∀g,aB h=aQ g->w.heap.size<g/\¬g=b:=by intro g a;rcases cu with e|e;rw[e]at a;exact⟨p4 g a,λe2=>B (by rw[a,e2])⟩;rw[e]at a;injection a with e2;omega
 refine⟨ka,R,bH,? _,? _⟩;rcases s.2 with⟨_,e⟩|⟨g,cap,_,hv,_⟩;exact absurd e bH;have:=m g GF;exact⟨g,cap,hv,this.1,this.2⟩;intro W E _;have h1:q9 (·=c.rb) w o:=(V.z v).z' n (λi Y e=>by have:=p4 i e;omega);have h2:q9 (·=c.rb) w W:=h1.z' E (λi Y e=>bH);have szt:=X.some;have S:Sd o c D pl (Rs.un r):=X.ext n (λe=>Us) (λe=>Us) (λe=>Us);have L:Sd W c D pl (Rs.un r):=S.ext E jO jP lu;refine⟨h2,L,λg a=>(m g a).1,? _,? _⟩;rw[nK];exact j8 s E (λk hk e=>by have:=m k hk;omega);intro nd l e;have hn:=hr nd l e;obtain⟨_,_,_,_,fz,G,M⟩:=hn.form;have ez:y=fz:=by rw[bb]at G;simp at G;exact G.2.2.2.2
 refine⟨? _,? _⟩;rw[X1,X1,Vx,hf,ez,M];have:(ByteArray.mk #[32]).toList=[32]:=Um;rw[this];simp;have Q:aA kids=j:=by have:=t.1;simp at this;exact dC
 have up:∀(q:Nat)(p:Nd),RN d (λq=>w.heap.size<q/\aB pv≠aQ q/\aB h≠aQ q) q p->RN W (λq=>w.heap.size<q/\aB h≠aQ q) q p:=by intro q p h4;have h5:RN o (λq=>w.heap.size<q/\aB pv≠aQ q/\aB h≠aQ q) q p:=h4.ext n (λk _ hk e=>hk.2.1 e);have h6:RN W (λq=>w.heap.size<q/\aB pv≠aQ q/\aB h≠aQ q) q p:=h5.ext E (λk _ hk e=>Vh);exact h6.I (λk _ hk=>⟨hk.1,hk.2.2⟩)
 intro i q p z C;by_cases Y:i<j;rw[ei bH]at z C;have h3:=x i q p z C;have h4:RN d (λq=>w.heap.size<q/\aB pv≠aQ q) q p:=h3.ext v (λk _ hk e=>Vh);exact ZgU;have K:i=j:=by have:=ck.1 z;obtain⟨h1,_⟩:=this;exact xz
 subst K;rw[du bH]at z C;simp[Q]at z;simp[A]at C;subst z;subst C;refine up _ _ (hn.I (λk hk hD=>⟨bH,? _,? _⟩));intro e;have:=u k e;omega;intro e;rcases cu with e2|e2;have:=u k (e2.symm.z e);omega;exact ZdY
theorem jp3(h:(s.toList==[40])=aS):numOf s.toList=none:=by rw[fo.1 h];decide
theorem Zb2{ts:aZ}{u:Unit}(h:kO N aS (if 30<=d then Rs.no 6 t.pos else Rs.ok () ts)=.ok u cS):d<30/\∃c,ts=c::cS/\U3 N aS (aF c.bI)=0:=by by_cases hd:30<=d;rw[bO hd]at h;exact absurd h (by simp[kO]);rw[bL hd]at h;cases ts with|nil=>(exact absurd h (by simp[kO]))|cons a b=>simp only[kO]at h;split at h;rename_i e;injection h with h1 h2;exact⟨bH,a,by rw[h2],e⟩;exact zA
theorem NB(h:rS w nb N){a:Int}(b:k9 N l=aQ a):0<=a/\a<=3:=by unfold k9 at b;cases c:N.find? (λx=>x.name.toList==l)with|none=>(rw[c]at b;exact absurd b bK)|some x=>rw[c]at b;simp at b;obtain⟨i,d,e⟩:=Cu (GU c);have:=(h i x (by rw[bZ d,e])).2.2;omega
theorem qK1(h:rS w nb N)(b:U3 N aS l=0):X7 l=aS/\∃a,k9 N l=aQ a/\1<=a/\a<=3:=by unfold U3 at b;split at b;exact absurd b bJ;rename_i h1;split at b;exact absurd b bJ;rename_i d;split at b;exact absurd b bJ;rename_i e;refine⟨uK,? _⟩;cases c:k9 N l with|none=>(rw[c]at d;exact absurd bJ d)|some a=>have:=NB h c;rw[c]at e;simp at e;exact⟨a,rfl,bH,this.2⟩
theorem X9(x:UInt8):(ByteArray.mk #[x]).toList=[x]:=Um
theorem NC{a:Tk}{ts:aZ}{k:Int}(f:(aF t.bI==[40])=aS)(hd:d<30)(c:ts=a::cS)(b:U3 N aS (aF a.bI)=0)(e:k9 N (aF a.bI)=aQ k)(g:1<=k):Z4 N (n+1) d (t::ts)=Z5 4 3 a.bI (J5 (List.replicate k.toNat (fp (Z4 N n (d+1)))) cS):=by
 have i:X7 (aF a.bI)=aS:=by cases h:X7 (aF a.bI) with|true=>(rfl)|false=>rw[U3,bO h]at b;exact absurd b bJ
 subst c;rw[Z4,bO (fo.1 f),bL bH];simp only[i,e,if_true];rw[bL bH]
theorem qi2{e:Int}{ts:aZ}(l:rS w nb N)(i:(aF t.bI==[40])=aS)(f:ts≠[])(h:kO N aS (if 30<=d then Rs.no 6 t.pos else Rs.ok () ts)=.no e p):Z4 N (n+1) d (t::ts)=.no e p:=by
 obtain⟨u,c,rfl⟩:∃u c,ts=u::c:=by cases ts with|nil=>(exact absurd rfl f)|cons u c=>exact⟨u,c,rfl⟩
 rw[Z4,bO (fo.1 i)];by_cases hd:30<=d;rw[bO hd]at h⊢;simpa[kO]using h;rw[bL hd]at h⊢;simp only[kO]at h;split at h;exact zA;rename_i b;injection h with h1 h2;subst h1;subst h2;unfold U3 at b⊢;cases j:X7 (aF u.bI) with|false=>(simp)|true=>rw[j]at b;simp only[if_true];cases g:k9 N (aF u.bI) with|none=>(simp)|some a=>have hb:=NB l g;rw[g]at b;simp only[Option.getD_some]at b⊢;by_cases k:a=0;subst k;rw[bO rfl,bL bJ,bL bJ,bO bJ];exfalso;apply b;have:0<a:=bH;rw[bL bJ,bL bH,bL];simp[this]
theorem U4{w5:ao}{L a:aZ}{d' e:Int}{j:au}(k:q9 (·=c.rb) w w5)(m:c.rb<w.heap.size)(r:c.tb<w.heap.size)(q:c.nb<w.heap.size)(l:w5.heap[w.heap.size]?=ad #[y0,j,y2,y3,ai f] 235)(o:Rd w5 c a d' e p)(i:¬e=0)(n:f.size+2<=603*aA L):V7 w c L d pl (.no e p) (aH (pT w.heap.size)) (w5.setCell (aD w.heap.size 4) (ai (f++⟨#[41]⟩))):=by have b:q9 (·=w.heap.size) w5 (w5.setCell (aD w.heap.size 4) (ai (f++⟨#[41]⟩))):=(q9.refl (·=w.heap.size) w5).sc w.heap.size 4 _;have h:=X6 l 4 (ai (f++⟨#[41]⟩));have g:=o.ext b jO jP lu;refine⟨w.heap.size,_,_,_,_,_,rfl,cj _,k.z' b (λ_ _ e=>bH),h,? _,⟨i,a,d',g⟩,λ_ a e=>absurd e bK⟩;have s:(ByteArray.mk #[41]).size=1:=rfl;simp only[uS];omega
def x7(ts:aZ):ak:=ts.flatMap (fun t=>[iI t.pos,.string t.bI])
theorem Hn(ts:aZ)(t:Tk):x7 (ts++[t])=x7 ts++[iI t.pos,ai t.bI]:=by simp[x7]
theorem jN2:(prog.info? 328).map (λi=>(i.zero,i.size,i.bytes))=aQ (aQ (aJ #[iI 0,ai ay]),2,24):=bS
theorem zR(s:ax)(k:Nat)(h:k<s.size):s.toList.drop k=s[k]::s.toList.drop (k+1):=by rw[oG,uT (by rw[<-Lib.size_eq];exact h)];rfl
theorem Ho(s:ax)(k:Nat)(h:k<s.size):(s.extract k (k+1)).toList=[s[k]]:=by rw[Lib.extract_toList,<-oG,zR s k h];have:k+1-k=1:=bH;exact xA
theorem Hp{c:UInt8}(h:((c.toNat:Int)==40)=aS\/((c.toNat:Int)==41)=aS):jD c=aS:=by unfold jD;rcases h with h|h;rw[rR (c:=c) (n:=40) bH pJ];rfl;rw[rR (c:=c) (n:=41) bH pJ];rfl
theorem Wa{c:UInt8}(b:((c.toNat:Int)==40)=aT)(d:((c.toNat:Int)==41)=aT):jD c=aT:=by
 unfold jD;rw[Bool.or_eq_false_iff];constructor;cases a:(c==40)with|false=>(rfl)|true=>rw[fo.1 a]at b;exact absurd b bJ
 cases a:(c==41)with|false=>(rfl)|true=>rw[fo.1 a]at d;exact absurd d bJ
theorem Hq(b:W.size<=k)(a:W.toList.isEmpty=aT):jU k W.toList=[⟨k-W.size,W⟩]/\(((k-W.size:Nat):Int)=(k:Int)-(W.size:Int)):=by refine⟨? _,bH⟩;unfold jU;rw[bL (by intro e;rw[e]at a;exact absurd a bJ),Z6];have:(ByteArray.mk W.toList.toArray)=W:=O8 (mM _);rw[this]
theorem ND(a:W.toList.isEmpty=aS):jU k W.toList=[]:=by unfold jU;rw[bO (by simpa using a)]
theorem Wb(s:ax)(w:ao)(A:s.size<=600):cP 158 #[ai s] w λe w'=>∃v,e=aH v/\eX w w'/\aC w' w.heap.size 328 2 v (aA (cr s.toList)) (x7 (cr s.toList)):=by
 obtain⟨i0,hi,cQ,cz,cE⟩:=cR jN2;have t:Hid (prog.info? 328=aQ i0/\i0.zero=aQ (aJ #[iI 0,ai ay])/\i0.size=2/\i0.bytes=24):=⟨hi,cQ,cz,cE⟩;clear hi cQ cz cE;delta cP;go_in;go_wp2;go_loopw [3,4,5](λr z i wr=>∃(k:Nat)(acc:aZ)(W:ax),i=iI k/\z=ai W/\k<=s.size+1/\W.size<=k/\aA acc<=2*k/\eX w wr/\aC wr w.heap.size 328 2 r (aA acc) (x7 acc)/\((k<=s.size/\cr s.toList=acc++dJ k W.toList (s.toList.drop k))\/(k=s.size+1/\cr s.toList=acc++[⟨s.size,ay⟩])))(λ_ _ i _=>s.size+1-(intOf i).toNat);case atStart=>exact⟨0,[],ay,rfl,rfl,bH,bJ,bK,q9.refl _ _,fB _ _ _ _,Or.inl ⟨bH,by simp[cr]⟩⟩
 case round=>obtain⟨k,acc,W,rfl,rfl,_,_,_,x,d,j⟩:=hrel;obtain⟨HE,il,a⟩:=bV x d j;clear x d j;by_cases f:k<s.size;{have y:((k:Int)==(s.size:Int))=aT:=bQ;have dK:=jb6 s[k];have jn:=q8 dK;have HC:Hid (cr s.toList=acc++dJ k W.toList (s[k]::s.toList.drop (k+1))):=by{rcases a.o with⟨_,h⟩|⟨h,_⟩;rw[zR s k f]at h;exact h;omega};clear dK a;obtain⟨hi,cQ,cz,cE⟩:=t.o;have tD:=q8 (Ho s k f);by_cases xU:((s[k].toNat:Int)==40)=aS;have nO:jD s[k]=aS:=Hp (Or.inl xU);exact ZkR;have l:((s[k].toNat:Int)==40)=aT:=Zdz;clear xU;by_cases zS:((s[k].toNat:Int)==41)=aS;have nO:jD s[k]=aS:=Hp (Or.inr zS);exact ZkR;have m:((s[k].toNat:Int)==41)=aT:=ZdA;clear zS;have tE:=q8 (Wa l m);cases dK:jT s[k]with|true=>(have b:Hid (∀w,cP 195 #[.int .u8 s[k].toNat] w λe w'=>e=aH (ah)/\w=w'):=ZhC;have c:=q8 dK;clear dK jn;cases eK:W.toList.isEmpty with|true=>(go_wp2_with(go_at_call 195;refine(b.o _).I ? _;rintro e w' ⟨rfl,rfl⟩);go_roundw;(case measure=>exact Cm);case rel=>refine⟨k+1,acc,W,bW,rfl,bH,bH,bH,HE.o,il.o,Or.inl ⟨bH,? _⟩⟩;rw[HC.o,dJ,bL Zdy,bO c.o,ND eK];have e0:W.toList=[]:=GA;simp[e0])|false=>(go_wp2_with first|(go_at_call 195;refine(b.o _).I ? _;rintro e w' ⟨rfl,rfl⟩)|(at_builtin;refine gQ _ rfl _ _ 285 rfl w.heap.size 328 i0 (aJ #[iI 0,ai ay]) 2 24 Cv hi cQ cz cE rfl bJ _ _ _ rfl (il.o.alloc _) (aD wr.heap.size 0) 1 1 [(iI ((k:Int)-(W.size:Int))),(ai W)] rfl rfl ? c1 ? c2 ? c3 ? c4 ? c5 ? _));(case c1=>exact Gr);(case c2=>exact Gu);(case c3=>exact GN);(case c4=>exact qE);(case c5=>exact MU);intro v1 w1 gS fC _ _;have iH:Hid (eX w w1):=(HE.o.alloc _).grown fC (λg hg _=>Mt);have mN:Hid (aC w1 w.heap.size 328 2 v1 (aA (acc++[(⟨k-W.size,W⟩:Tk)])) (x7 (acc++[(⟨k-W.size,W⟩:Tk)]))):=Zeg;clear gS fC;go_wp2;go_roundw;(case measure=>exact Cm);case rel=>refine⟨k+1,_,_,bW,rfl,bH,TQ,qE,iH.o,mN.o,Or.inl ⟨bH,? _⟩⟩;rw[HC.o,dJ,bL Zdy,bO c.o,(Hq bH eK).1];simp)|false=>have b:Hid (∀w,cP 195 #[.int .u8 s[k].toNat] w λe w'=>e=aH (af)/\w=w'):=ZhC;have c:=q8 dK;clear dK jn;go_wp2_with(go_at_call 195;refine(b.o _).I ? _;rintro e w' ⟨rfl,rfl⟩);go_roundw;(case measure=>exact Cm);case rel=>refine⟨k+1,acc,_,bW,rfl,bH,? _,bH,HE.o,il.o,Or.inl ⟨bH,? _⟩⟩;rw[<-Z6,X1,tD.o,cO,Z6];exact bQ;rw[HC.o,dJ,bL Zdy,bL (by rw[c.o];decide),X1,tD.o]};by_cases n:k=s.size;{subst n;obtain⟨hi,cQ,cz,cE⟩:=t.o;have HC:Hid (cr s.toList=acc++(jU s.size W.toList++[⟨s.size,ay⟩])):=by{rcases a.o with⟨_,h⟩|⟨h,_⟩;rw[MX UJ]at h;exact h;omega};clear a;cases eK:W.toList.isEmpty with|true=>(go_wp2;go_roundw;(case measure=>exact Cm);case rel=>refine⟨s.size+1,acc,W,bW,rfl,bH,bH,bH,HE.o,il.o,Or.inr ⟨rfl,? _⟩⟩;rw[HC.o,ND eK];simp)|false=>go_wp2_with(at_builtin;refine gQ _ rfl _ _ 285 rfl w.heap.size 328 i0 (aJ #[iI 0,ai ay]) 2 24 Cv hi cQ cz cE rfl bJ _ _ _ rfl (il.o.alloc _) (aD wr.heap.size 0) 1 1 [(iI ((s.size:Int)-(W.size:Int))),(ai W)] rfl rfl ? c1 ? c2 ? c3 ? c4 ? c5 ? _);(case c1=>exact Gr);(case c2=>exact Gu);(case c3=>exact GN);(case c4=>exact qE);(case c5=>exact MU);intro v1 w1 gS fC _ _;have iH:Hid (eX w w1):=(HE.o.alloc _).grown fC (λg hg _=>Mt);have mN:Hid (aC w1 w.heap.size 328 2 v1 (aA (acc++[(⟨s.size-W.size,W⟩:Tk)])) (x7 (acc++[(⟨s.size-W.size,W⟩:Tk)]))):=Zeg;clear gS fC;go_wp2;go_roundw;(case measure=>exact Cm);case rel=>refine⟨s.size+1,_,_,bW,rfl,bH,TQ,qE,iH.o,mN.o,Or.inr ⟨rfl,? _⟩⟩;rw[HC.o,(Hq bH eK).1];simp};have p:k=s.size+1:=bH;subst p;have HC:Hid (cr s.toList=acc++[⟨s.size,ay⟩]):=by{rcases a.o with⟨h,_⟩|⟨_,h⟩;omega;exact h};clear a;obtain⟨hi,cQ,cz,cE⟩:=t.o;go_wp2_with(at_builtin;refine gQ _ rfl _ _ 285 rfl w.heap.size 328 i0 (aJ #[iI 0,ai ay]) 2 24 Cv hi cQ cz cE rfl bJ _ _ _ rfl (il.alloc _) (aD wr.heap.size 0) 1 1 [(iI (s.size:Int)),(ai ay)] rfl rfl ? c1 ? c2 ? c3 ? c4 ? c5 ? _);(case c1=>exact Gr);(case c2=>exact Gu);(case c3=>exact GN);(case c4=>exact qE);(case c5=>exact MU);intro v1 w1 gS fC _ _;go_wp2;go_ret;refine⟨v1,rfl,(HE.alloc _).grown fC (λg hg _=>by have:=(il.lt g hg).1;omega),? _⟩;rw[HC.o,Hn,cO];exact gS
structure Hr(s:ByteArray)(k:Nat)(X:ByteArray):Prop where
 pos:0<X.size
 le:k+X.size<=s.size
 cr:dJ k [] (s.toList.drop k)=⟨k,X⟩::dJ (k+X.size) [] (s.toList.drop (k+X.size))
theorem Wc(h:k<s.size)(hb:jD s[k]=aS):Hr s k (s.extract k (k+1)):=by
 have b:=Ho s k h;have a:(s.extract k (k+1)).size=1:=by rw[<-Z6,b];rfl
 have c:s.extract k (k+1)=⟨#[s[k]]⟩:=O8 (by rw[b];exact(mM [s[k]]).symm);refine⟨bH,bH,? _⟩;rw[zR s k h,Zc4 _ _ _ hb,a,c]
theorem Wd(o:k<e)(p:e<=s.size)(i:((s.toList.drop k).take (e-k)).all jE=aS)(m:∀c r,s.toList.drop e=c::r->jE c=aT):Hr s k (s.extract k e)/\eJ (s.extract k e).toList=3:=by
 have f:(s.extract k e).toList=(s.toList.drop k).take (e-k):=by rw[Lib.extract_toList,<-oG]
 have h:(s.extract k e).size=e-k:=by rw[<-Z6,f,eF,List.length_drop,Z6];omega
 have b:(s.toList.drop k).take (e-k)≠[]:=by intro l;have:=Z6 (s.extract k e);rw[f,l,h]at this;exact nJ
 refine⟨⟨bH,bH,? _⟩,by rw[f];exact jw9 b i⟩;have a:s.toList.drop k=(s.toList.drop k).take (e-k)++s.toList.drop e:=by have j:s.toList.drop e=(s.toList.drop k).drop (e-k):=ZmJ;rw[j,jB]
 have n:s.extract k e=⟨((s.toList.drop k).take (e-k)).toArray⟩:=O8 (f.z (mM _).symm);have d:aA ((s.toList.drop k).take (e-k))=e-k:=by rw[<-f,Z6,h]
 rw[h];have g:k+(e-k)=e:=bH;rw[g];conv=>lhs;rw[a]
 rw[jM4 k _ _ b i m,d,g,n]
theorem qL1(i:k<=e)(a:e<s.size)(f:((s.toList.drop k).take (e-k)).all jE=aS)(d:jE s[e]=aS):((s.toList.drop k).take (e+1-k)).all jE=aS:=by
 have h:e+1-k=(e-k)+1:=bH;have b:e-k<aA (s.toList.drop k):=ZcY;have g:(s.toList.drop k)[e-k]=s[e]:=by have c:s.toList.drop e=(s.toList.drop k).drop (e-k):=ZmJ;rw[zR s e a,uT b]at c;injection c with h4 h5;exact h4.symm
 rw[h,MW b,List.all_append,f,g];simp[d]
theorem gAt(s:ax)(k:Nat)(w:ao)(F:s.size<=600)(t:k<s.size)(hb:jT s[k]=aT):cP 143 #[ai s,iI k] w λe w'=>∃X:ax,e=aH (aJ #[iI (eJ X.toList),iI k,ai X])/\Hr s k X/\eX w w':=by
 by_cases xU:((s[k].toNat:Int)==40)=aS;{have B:=q8 (Wc t (Hp (Or.inl xU)));have z:Hid (eJ (s.extract k (k+1)).toList=1):=by{show _=_;rw[Ho s k t,rR (c:=s[k]) (n:=40) bH Zdz];decide};delta cP;go_in;go_wp2;exact cq (v:=aJ #[iI 1,iI k,ai (s.extract k (k+1))]) Mw rfl ⟨_,by rw[z.o],B,(rr w).alloc _⟩};have m:((s[k].toNat:Int)==40)=aT:=Zdz;by_cases zS:((s[k].toNat:Int)==41)=aS;{have B:=q8 (Wc t (Hp (Or.inr zS)));have z:Hid (eJ (s.extract k (k+1)).toList=2):=by{show _=_;rw[Ho s k t,rR (c:=s[k]) (n:=41) bH ZdA];decide};clear xU;delta cP;go_in;go_wp2;exact cq (v:=aJ #[iI 2,iI k,ai (s.extract k (k+1))]) Mw rfl ⟨_,by rw[z.o],B,(rr w).alloc _⟩};have p:((s[k].toNat:Int)==41)=aT:=ZdA;have y:Hid (jE s[k]=aS):=by show _=_;rw[jE,hb,Wa m p];rfl
 have E:=q8 hb;clear xU zS hb;delta cP;go_in;go_wp2;go_loop [5](λi=>∃e:Nat,k<=e/\e<=s.size/\i=iI e/\((s.toList.drop k).take (e-k)).all jE=aS/\(e=k->True))(λi=>s.size-(intOf i).toNat);case atStart=>exact⟨k,cj _,bH,rfl,bK,λ_=>dQ⟩
 case round=>obtain⟨e,x,l,rfl,C,_⟩:=hrel;have HA:=q8 C;clear C;by_cases j:e<s.size;{have jn:=q8 (VN s[e]);have tE:=q8 (qL0 s[e]);have b:jE s[e]=aT->Hr s k (s.extract k e)/\eJ (s.extract k e).toList=3:=by{intro A;have u:k<e:=by{rcases uU k e with h|h;exact h;have:e=k:=bH;subst this;rw[y.o]at A;exact absurd A bJ};refine Wd u l HA ? _;intro c r q;rw[zR s e j]at q;injection q with h1 h2;rw[<-h1];exact A};have a:=q8 b;clear b;cases dK:jT s[e]with|true=>(have d:Hid (∀w,cP 142 #[.int .u8 s[e].toNat] w λe w'=>e=aH (ah)/\w=w'):=TU;have f:=q8 (a.o (by rw[jE,dK];rfl));clear dK jn tE a HA;go_wp2_with(go_at_call 142;refine(d.o _).I ? _;rintro e w' ⟨rfl,rfl⟩);exact cq (v:=aJ #[iI 3,iI k,ai (s.extract k e)]) Mw rfl ⟨_,by rw[f.o.2],f.o.1,(rr w).alloc _⟩)|false=>have d:Hid (∀w,cP 142 #[.int .u8 s[e].toNat] w λe w'=>e=aH (af)/\w=w'):=TU;cases nO:jD s[e]with|true=>(have g:Hid (∀w,cP 184 #[.int .u8 s[e].toNat] w λe w'=>e=aH (ah)/\w=w'):=ZiV;have f:=q8 (a.o (by rw[jE,dK,nO];rfl));clear dK nO jn tE a HA;(go_wp2_with first|(go_at_call 142;refine(d.o _).I ? _;rintro e w' ⟨rfl,rfl⟩)|(go_at_call 184;refine(g.o _).I ? _;rintro e w' ⟨rfl,rfl⟩));exact cq (v:=aJ #[iI 3,iI k,ai (s.extract k e)]) Mw rfl ⟨_,by rw[f.o.2],f.o.1,(rr w).alloc _⟩)|false=>have g:Hid (∀w,cP 184 #[.int .u8 s[e].toNat] w λe w'=>e=aH (af)/\w=w'):=ZiV;have D:Hid (jE s[e]=aS):=by{show _=_;rw[jE,dK,nO];rfl};clear dK nO jn tE a;(go_wp2_with first|(go_at_call 142;refine(d.o _).I ? _;rintro e w' ⟨rfl,rfl⟩)|(go_at_call 184;refine(g.o _).I ? _;rintro e w' ⟨rfl,rfl⟩));exact⟨⟨e+1,bH,bH,bW,qL1 x j HA.o D.o,λ_=>dQ⟩,ch⟩};have f:=q8 (Wd (s:=s) (k:=k) (e:=e) bH l HA (by intro c r q;rw[MX UJ]at q;exact absurd q bK));clear HA;go_wp2;exact cq (v:=aJ #[iI 3,iI k,ai (s.extract k e)]) Mw rfl ⟨_,by rw[f.o.2],f.1,(rr w).alloc _⟩
def kQ(ts:aZ):ak:=ts.flatMap (fun t=>[iI (eJ (aF t.bI)),iI t.pos,.string t.bI])
theorem We(ts:aZ)(t:Tk):kQ (ts++[t])=kQ ts++[iI (eJ (aF t.bI)),iI t.pos,ai t.bI]:=by simp[kQ]
theorem jH9:(prog.info? 219).map (λi=>(i.zero,i.size,i.bytes))=aQ (aQ (aJ #[iI 0,iI 0,ai ay]),3,32):=bS
theorem Wg(s:ByteArray)(w:World)(hs:s.size<=600):cP 105 #[.string s] w λe w'=>∃v,e=aH v/\eX w w'/\aC w' w.heap.size 219 3 v (aA (cr s.toList)) (kQ (cr s.toList)):=by
 obtain⟨i0,hi,cQ,cz,cE⟩:=cR jH9;have HI:Hid (prog.info? 219=aQ i0/\i0.zero=aQ (.agg #[iI 0,iI 0,.string ByteArray.empty])/\i0.size=3/\i0.bytes=32):=⟨hi,cQ,cz,cE⟩;clear hi cQ cz cE;delta cP;go_in;go_wp2_with fail;go_loopw [3,4](λout i wr=>∃(k:Nat)(acc:aZ),i=iI k/\k<=s.size/\aA acc<=k/\eX w wr/\aC wr w.heap.size 219 3 out (aA acc) (kQ acc)/\cr s.toList=acc++dJ k [] (s.toList.drop k))(λ_ i _=>s.size-(intOf i).toNat);case atStart=>exact⟨0,[],rfl,bH,bK,q9.refl _ _,fB _ _ _ _,by simp[cr]⟩
 case round=>obtain⟨k,acc,rfl,hk,ZmW,hE,c9,iT⟩:=hrel;obtain⟨HE,il,rT⟩:=bV hE c9 iT;clear hE c9 iT;obtain⟨hi,cQ,cz,cE⟩:=HI.o;by_cases ct:k<s.size;{have jn:=q8 (VN s[k]);cases dK:jT s[k]with|true=>(have vq:Hid (∀w,cP 142 #[.int .u8 s[k].toNat] w λe w'=>e=aH (.bool aS)/\w=w'):=TU;have HC:Hid (cr s.toList=acc++dJ (k+1) [] (s.toList.drop (k+1))):=by{have:=rT.o;rw[zR s k ct,Zc5 _ _ _ dK]at this;exact dC};clear dK jn rT;go_wp2_with(go_at_call 142;refine(vq.o _).I ? _;rintro e w' ⟨rfl,rfl⟩);go_roundw;(case measure=>exact ch);case rel=>exact⟨k+1,acc,bW,bH,bH,HE.o,il.o,HC.o⟩)|false=>have vq:Hid (∀w,cP 142 #[.int .u8 s[k].toNat] w λe w'=>e=aH (.bool aT)/\w=w'):=TU;have vr:=q8 (gAt s k wr hs ct dK);clear dK jn;go_wp2_with(go_at_call 142;refine(vq.o _).I ? _;rintro e w' ⟨rfl,rfl⟩);refine vr.o.I ? _;rintro e w1 ⟨X,rfl,cu,dd⟩;obtain⟨mN,iH⟩:=bM (j8 il.o dd (λ_ _ f=>f)) (HE.o.z dd);have hXp:=cu.pos;have hXl:=cu.le;have NF:=q8 cu;clear cu dd;go_wp2_with(at_builtin;refine gQ _ rfl _ _ 212 rfl w.heap.size 219 i0 (.agg #[iI 0,iI 0,.string ByteArray.empty]) 3 32 underlying212 hi cQ cz cE rfl bJ _ _ _ rfl ((mN.o.alloc _).alloc _) (aD (w1.heap.size+1) 0) 1 1 [iI (eJ X.toList),iI k,.string X] rfl rfl ? c1 ? c2 ? c3 ? c4 ? c5 ? _);(case c1=>intro q u ep;match q,ep with|0,ep=>{exact rK}|1,ep=>{exact rK}|2,ep=>exact rK);(case c2=>intro u hu;exact ZcX);(case c3=>exact cN);(case c4=>omega);(case c5=>have:=iH.o.size;exact bQ);intro v2 w2 gS fC _ _;have nP:¬aQ w1.heap.size=aB u3:=λe=>by{have:=(mN.o.lt _ e.symm).2;omega};have kb:w2.heap[w1.heap.size]?=aQ (.cells #[iI (eJ X.toList),iI k,.string X] 219):=(fC.block _ bQ nP).z ((iO _ _ _ bK).z (bR w1 _));have k2:=z7 kb 2;have jF:Hid (eX w w2):=((iH.o.alloc _).alloc _).grown fC (λg hg _=>Zil);have mO:Hid (aC w2 w.heap.size 219 3 v2 (aA (acc++[(⟨k,X⟩:Tk)])) (kQ (acc++[(⟨k,X⟩:Tk)]))):=by{rw[We,cO];exact gS};clear gS fC kb nP;go_wp2_with fail;go_roundw;(case measure=>exact ch);case rel=>refine⟨k+X.size,acc++[⟨k,X⟩],bW,bH,bQ,jF.o,mO.o,? _⟩;rw[rT.o,NF.o.cr];simp};have hks:k=s.size:=bH;subst hks;have HC:Hid (cr s.toList=acc++[⟨s.size,ByteArray.empty⟩]):=by{have:=rT.o;rw[MX UJ]at this;exact dC};clear rT;go_wp2_with(at_builtin;refine gQ _ rfl _ _ 212 rfl w.heap.size 219 i0 (.agg #[iI 0,iI 0,.string ByteArray.empty]) 3 32 underlying212 hi cQ cz cE rfl bJ _ _ _ rfl (il.o.alloc _) (aD wr.heap.size 0) 1 1 [iI 0,iI (s.size:Int),.string ByteArray.empty] rfl rfl ? c1 ? c2 ? c3 ? c4 ? c5 ? _);(case c1=>intro q u ep;match q,ep with|0,ep=>{exact rK}|1,ep=>{exact rK}|2,ep=>simp at ep;subst ep;simp[Addr.add]<;>rfl);(case c2=>intro u hu;exact ZcX);(case c3=>exact cN);(case c4=>omega);(case c5=>have:=HE.o.size;exact bQ);intro v2 w2 gS fC _ _;go_wp2_with fail;go_ret;refine⟨v2,rfl,(HE.o.alloc _).grown fC (λg hg _=>Mt),? _⟩;rw[HC.o,We,cO];have e0:eJ (ByteArray.empty).toList=0:=by{rw[tz];rfl};simp only[e0];exact gS
end
section
variable{m:Nat}
structure Z7 where
 nm:ByteArray
 ar:Int
 a0:Int
 a1:Int
 a2:Int
 v:Int
abbrev bg:=List Z7
structure U1 where
 wd:ByteArray
 i:Int
 j:Int
 b:Int
def Z7.val(k:Z7):au:=aJ #[.string k.nm,iI k.ar,iI k.a0,iI k.a1,iI k.a2,iI k.v]
def Z7.cells(k:Z7):ak:=[.string k.nm,iI k.ar,iI k.a0,iI k.a1,iI k.a2,iI k.v]
def U1.val(k:U1):au:=aJ #[.string k.wd,iI k.i,iI k.j,iI k.b]
def U1.cells(k:U1):ak:=[.string k.wd,iI k.i,iI k.j,iI k.b]
theorem o6{wd:ax}{l:aU}(h:wd.toList=l):wd=⟨l.toArray⟩:=tM (h.z (mM l).symm)
theorem Z3{w:ao}{e size n:Nat}{v:au}{xs:ak}(h:aC w 0 e size v n xs):∃a cap,v=.slice a n cap:=ZlC
theorem II{α:Type}{f:α->ak}{m:Nat}(b:∀x,aA (f x)=m):∀l:List α,aA (l.flatMap f)=aA l*m|[]=>bK|a::l=>by have:=II b l;rw[CD,cO,b,this,mL,CE];omega
theorem jc7{α:Type}{f:α->ak}(a:∀x,aA (f x)=m)(l:List α)(k:Nat):(l.flatMap f).take (k*m)=(l.take k).flatMap f:=by
 by_cases b:k<=aA l;conv=>lhs;rw[<-jB k l]
 rw[CF,List.take_left'];rw[II a,eF,jR b];rw[cZ,cZ bH];rw[II a];exact pP _ bH
theorem Yr{α:Type}{f:α->ak}(b:∀x,aA (f x)=m){l:List α}{q:Nat}{x:α}(h:l[q]?=aQ x){j:Nat}{u:au}(a:(f x)[j]?=aQ u):(l.flatMap f)[q*m+j]?=aQ u:=by
 have hk:=(ck.1 h).1;have e:l=l.take q++x::l.drop (q+1):=by have e1:=(jB q l).symm;exact TI
 have g:l.flatMap f=(l.take q).flatMap f++(f x++(l.drop (q+1)).flatMap f):=by(conv=>lhs;rw[e]);simp
 have c:j<aA (f x):=(ck.1 a).1;have d:aA ((l.take q).flatMap f)=q*m:=by rw[II b,eF,jR (oI hk)]
 rw[g,du bH,d,s9,ei c];exact a
end
end Go.Proofs.YtegbdaffhpiacaaGreatDoor
