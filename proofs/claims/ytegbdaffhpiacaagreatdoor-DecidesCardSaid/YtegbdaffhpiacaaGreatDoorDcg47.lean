/- Part. -/
import Derived.Test.YtegbdaffhpiacaaGreatDoorDcg46
import Derived.Deep.WholeRow
set_option maxRecDepth 100000
set_option maxHeartbeats 1000000
namespace Go.Proofs.YtegbdaffhpiacaaGreatDoor
open Go.Proofs.Tryz Go.RowKit Ar
section
variable{n o i j:Nat}{TT:List O3}{C:Array au}{X:O3}
def ti:au:=.agg (((List.replicate 169 ([iI 0,iV 0,iV 0,iV 0]:ak)).flatten++([iI 0,.bool false,iV 0,iV 0,iV 0]:ak)).toArray)
theorem JA:(prog.info? 203).map (λi=>(i.zero,i.size,i.bytes))=some (some ti,681,5448):=aG
theorem rz.own{w:ao}{a:au}{g:Nat}(h:rz w a g n TT):∃(cap:Nat)(C:Array au),a=az g TT.length cap/\w.heap[g]?=ad C 203/\(∀k X,TT[k]?=some X->Y5 C (k*681) n X)/\w.ownsRow 0 203 681 a TT.length (C.toList.take (TT.length*681)):=by
 obtain⟨cap,C,c,b,d,h4,i,f⟩:=h.ex;refine⟨cap,C,c,b,f,?_,.inr ⟨g,cap,C,c,aY _,b,h4,i,d,rfl⟩⟩;have e:C.toList.length=cap*681:=by rw[<-d];simp
 exact ZhA
theorem Y5.JB{e:Array au}{a:Nat}(h:Y5 C o n X)(b:∀q,q<681->e[a+q]?=C[o+q]?):Y5 e a n X:=by refine⟨λi j d c=>?_,λi j d c=>?_,λi j d c=>?_,λi j d c=>?_,?_,?_,?_,?_,?_⟩;rw[show a+i*52+j*4=a+(i*52+j*4)by omega,b _ aA,show o+(i*52+j*4)=o+i*52+j*4 by omega];exact h.aI i j d c;rw[show a+i*52+j*4+1=a+(i*52+j*4+1)by omega,b _ aA,show o+(i*52+j*4+1)=o+i*52+j*4+1 by omega];exact h.wa i j d c;rw[show a+i*52+j*4+2=a+(i*52+j*4+2)by omega,b _ aA,show o+(i*52+j*4+2)=o+i*52+j*4+2 by omega];exact h.wb i j d c;rw[show a+i*52+j*4+3=a+(i*52+j*4+3)by omega,b _ aA,show o+(i*52+j*4+3)=o+i*52+j*4+3 by omega];exact h.wc i j d c;rw[b _ aA];exact h.size;rw[b _ aA];exact h.news;rw[b _ aA];exact h.xa;rw[b _ aA];exact h.xb;rw[b _ aA];exact h.xc
theorem rz.push{w':ao}{g' m a:Nat}{xs news:ak}{D:Array au}(s:∀k X,TT[k]?=some X->Y5 C (k*681) n X)(l:xs=C.toList.take (m*681))(j:m=TT.length)(d:xs.length=m*681)(u:Y5 D 0 n X)(v:news=D.toList)(g:w'.ownsRow 0 203 681 (az g' (m+1) a) (m+1) (xs++news)):rz w' (az g' (m+1) a) g' n (TT++[X]):=by
 rcases g.2 with⟨_,_⟩|⟨_,_,h,r,_,x,_,t,y,w⟩;omega;simp at r;obtain⟨rfl,rfl⟩:=r;refine⟨a,h,by simp[j],x,y,aM,t,λk Y p=>?_⟩;have c:∀q,q<(m+1)*681->h[q]?=(xs++news)[q]?:=by intro q i;rw[<-w,qD,aJ i,yK]
 rcases qZ p with⟨_,p⟩|⟨rfl,rfl⟩;refine Y5.JB (C:=C) (o:=k*681) (s k Y p) (λq i=>?_);have b:k*681+q<m*681:=by have:=oC 681 (aA:k+1<=m);omega
 have f:k*681+q<(m+1)*681:=bD b (oC 681 (Nat.le_succ m));have e:k*681+q<xs.length:=by rw[d];exact b
 rw[c (k*681+q) f,dx e,l,qD,aJ b,yK];refine Y5.JB (C:=D) (o:=0) u (λq i=>?_);have f:TT.length*681+q<(m+1)*681:=by rw[j,Nat.succ_mul];exact Nat.add_lt_add_left i _
 have e:xs.length<=TT.length*681+q:=by rw[d,j];exact Nat.le_add_right _ _
 rw[c (TT.length*681+q) f,cB e,d,v,yK,j,rU,oy]
theorem Y5.cut(h:Y5 C o n X):Y5 (C.extract o (o+681)) 0 n X:=by refine h.JB (λ_ _=>?_);rw[Array.getElem?_extract];have:=p5 h.xc;rw[aJ aA];exact kv
theorem P8(h:Y5 C o n X):(C.extract o (o+681)).size=681:=by have:=p5 h.xc;exact aM
section
variable{w w':ao}{hb g:Nat}{c:cm}{TK:List Z7}{AK:List PA}{tw:List (Nat × Nat)}{As:List (PA × Bool)}{TT:List O3}{X Y:O3}
theorem bC.gC(h:bC w hb g c TK AK tw As (TT++[X])):∃C,w.heap[g]?=ad C 203/\Y5 C (TT.length*681) (TK.length+1) X/\∀w' Y,ja w g (TT.length*681) (TK.length+1) C Y w'->bC w' hb g c TK AK tw As (TT++[Y]):=by
 obtain⟨cap,C,r,b,v,q,s,l⟩:=h.tb.ex;refine⟨C,b,l TT.length X aC,λw' Y u=>?_⟩;obtain⟨d,m,t,i,j⟩:=u;have n:¬hb=g:=by intro e;have:=h.aL;rw[e,b]at this;exact fQ
 refine⟨(d.block _ (j9 h.aL) n).trans h.aL,j8 h.ts d (λk a e=>K8 h.ts b aE (e▸a)),j8 h.eU d (λk a e=>K8 h.eU b aE (e▸a)),j8 h.tw d (λk a e=>K8 h.tw b aE (e▸a)),j8 h.ss d (λk a e=>K8 h.ss b aE (e▸a)),⟨cap,m,by rw[r];simp,t,by rw[j.1];exact v,by simpa using q,s,λk Z a=>?_⟩⟩;rcases qZ a with⟨f,a⟩|⟨rfl,rfl⟩;refine Y5.JB (C:=C) (o:=k*681) (l k Z (by rw[dx f];exact a)) (λ_ p=>j.2 _ (.inl ?_));have:=oC 681 (aA:k+1<=TT.length);rw[Nat.succ_mul]at this;exact bD (Nat.add_lt_add_left p _) this;exact i
theorem bC.ext{S:aj}(h:bC w hb g c TK AK tw As TT)(d:q9 S w w')(b:∀k,(k=hb\/k=g\/c.tv.ownBlock=some k\/c.av.ownBlock=some k\/c.wv.ownBlock=some k\/c.sv.ownBlock=some k)->¬S k):bC w' hb g c TK AK tw As TT:=by obtain⟨cap,C,f,e,i⟩:=h.tb.ex;exact⟨(d.block _ (j9 h.aL) (b _ (.inl rfl))).trans h.aL,j8 h.ts d (λk a=>b k (.inr (.inr (.inl a)))),j8 h.eU d (λk a=>b k (.inr (.inr (.inr (.inl a))))),j8 h.tw d (λk a=>b k (.inr (.inr (.inr (.inr (.inl a)))))),j8 h.ss d (λk a=>b k (.inr (.inr (.inr (.inr (.inr a)))))),⟨cap,C,f,(d.block _ (j9 e) (b _ (.inr (.inl rfl)))).trans e,i⟩⟩
theorem qk5(F:w.heap[g]?=ad C 203)(u:Y5 C o n X)(hi:i<13)(E:j<13):cP 272 #[.pointer (some (aD g o)),iI i,iI j] w λe w'=>eX w w'/\((e=.returned (.tuple #[.agg #[iV 0,iV 0,iV 0],af])/\¬(X.t.aI i j<=0/\X.t.aI j i<=0))\/(e=.returned (.tuple #[((X.t.br i j).or (X.t.br j i)).val,ah])/\X.t.aI i j<=0/\X.t.aI j i<=0)):=by obtain⟨W,hW⟩:∃W,w.alloc (.cells #[iV 0,iV 0,iV 0] 197)=W:=⟨_,rfl⟩;have d:eX w W:=Li;have l:=d.K F;have r:W.heap[w.heap.size]?=ad #[iV 0,iV 0,iV 0] 197:=Kx;obtain⟨_,_,_,_⟩:=u.cell l (i:=i) (j:=j) hi E;obtain⟨_,_,_,_⟩:=u.cell l (i:=j) (j:=i) E hi;have L:=j9 l;have I:(i:Int)<13:=aA;have H:(j:Int)<13:=aA;obtain⟨B,cR,J⟩:=aQ hW d r;obtain⟨p,q,m,K,G,M⟩:=oJ r 0 1 2 0 1 2;have h:=j9 r;have s:=q8 h;clear F u hW d l r;delta cP;go_in;go_wp2_with fail;rw[B.o];go_region;all_goals by_cases h1:0<X.t.aI i j;{have x:decide (0<X.t.aI i j)=true:=fS h1;go_wp2_with fail;refine a6 (v:=.tuple #[.agg #[iV 0,iV 0,iV 0],af]) (by simp[results,results272,go_sem,p,q,m,h]) rfl ⟨?_,.inl ⟨rfl,aA⟩⟩;exact Zjp};have x:decide (0<X.t.aI i j)=false:=gj h1;have z:X.t.aI i j<=0:=aA;clear h1;by_cases t:0<X.t.aI j i;{have aH:decide (0<X.t.aI j i)=true:=fS t;go_wp2_with fail;refine a6 (v:=.tuple #[.agg #[iV 0,iV 0,iV 0],af]) (by simp[results,results272,go_sem,p,q,m,h]) rfl ⟨?_,.inl ⟨rfl,aA⟩⟩;exact Zjp};have aH:decide (0<X.t.aI j i)=false:=gj t;have y:X.t.aI j i<=0:=aA;clear t;go_wp2_with fail;refine(uo (X.t.br i j) (X.t.br j i) _).mono ?_;rintro e w3 ⟨rfl,k⟩;have f:eX W w3:=((((eR W).alloc _).alloc _).drew).trans k;have D:=(f.block _ s id).trans J;obtain⟨p,q,m,K,G,M⟩:=oJ D 0 1 2 0 1 2;have A:=q8 f;simp only[M3.val,u64];clear k f D;go_wp2_with fail;refine a6 (v:=.tuple #[.agg #[iV ((X.t.br i j).or (X.t.br j i)).a.toNat,iV ((X.t.br i j).or (X.t.br j i)).b.toNat,iV ((X.t.br i j).or (X.t.br j i)).c.toNat],ah]) (by simp[results,results272,go_sem,p,q,m]) rfl ⟨?_,.inr ⟨rfl,z,y⟩⟩;exact(cR.trans A).trans' (y' _ _ _ _ _) (λi hi e=>fq)
end
section
variable{w:ao}{hb g:Nat}{c:cm}{TK:List Z7}{AK:List PA}{tw:List (Nat × Nat)}{As:List (PA × Bool)}{TT:List O3}{X:O3}
def ek(AK:List PA)(q:Nat):PA:=match AK[q]? with
 | some x=>x
 | none=>⟨⟨#[60]⟩,(q-AK.length)/12,(q-AK.length)%12,0⟩
theorem vH{AK:List PA}{q:Nat}{x:PA}(h:AK[q]?=some x){u:au}(a:x.cells[j]?=some u):(AK.flatMap PA.cells)[q*4+j]?=some u:=WD (f:=PA.cells) (m:=4) (λ_=>rfl) h a
theorem qL8(h:bC w hb g c TK AK tw As TT)(q:Nat)(A:q<=100000)(B:AK.length<=16):cP 258 #[pT hb,iI q] w λe w'=>e=.returned (.agg #[ai (ek AK q).wd,iI (ek AK q).i,iI (ek AK q).j,iI (ek AK q).b])/\eX w w':=by
 have n:=h.aL;obtain⟨u,_,f⟩:=Z3 h.eU;rw[f]at n;have c1:=z7 n 1;by_cases o:q<AK.length;{obtain⟨x,m⟩:∃x,AK[q]?=some x:=⟨_,aU o⟩;have a:ek AK q=x:=by{unfold ek;rw[m]};rw[a];have l:=h.eU;obtain⟨k,s⟩:∃k,u=some (aD k 0)/\k<w.heap.size:=by{rcases l.2 with⟨e,_⟩|⟨g',_,_,hv,_,hh,_⟩;omega;rw[f]at hv;exact rL};obtain⟨rfl,_⟩:=s;rw[f]at l;have y:w.cell? ⟨k,q*4,none⟩=some (ai x.wd):=(l.cellAt (q*4) aA).trans (vH m (j:=0) rfl);have E:w.cell? ⟨k,q*4+1,none⟩=some (iI x.i):=(l.cellAt (q*4+1) aA).trans (vH m rfl);have D:w.cell? ⟨k,q*4+2,none⟩=some (iI x.j):=(l.cellAt (q*4+2) aA).trans (vH m rfl);have z:w.cell? ⟨k,q*4+3,none⟩=some (iI x.b):=(l.cellAt (q*4+3) aA).trans (vH m rfl);have r:=j9 n;clear h n l m a f;delta cP;go_in;go_wp2;refine a6 (v:=.agg #[ai x.wd,iI x.i,iI x.j,iI x.b]) (by simp[results,results258,go_sem]) rfl ⟨rfl,(rr w).alloc _⟩};have p:AK.length<=q:=aA;have a:ek AK q=⟨⟨#[60]⟩,(q-AK.length)/12,(q-AK.length)%12,0⟩:=by unfold ek;rw[iQ p]
 rw[a];obtain⟨d,hd⟩:∃d,q=AK.length+d:=⟨q-AK.length,aA⟩;subst hd;have t:AK.length+d-AK.length=d:=aA;have C:(AK.length:Int)+(d:Int)-(AK.length:Int)=d:=aA;rw[t];have r:=j9 n;clear h n a f o t;delta cP;go_in;go_wp2;refine a6 (v:=.agg #[ai ⟨#[60]⟩,iI ((d/12:Nat):Int),iI ((d%12:Nat):Int),iI 0]) (by simp[results,results258,go_sem]) rfl ⟨rfl,(rr w).alloc _⟩
theorem zZ5(h:bC w hb g c TK AK tw As TT)(f:AK.length<=16)(k:i<100)(d:j<100):cP 270 #[pT hb,iI i,iI j] w λe w'=>e=.returned (iI ((AK.length+i*12+j:Nat):Int))/\w'=w:=by have b:=h.aL;obtain⟨_,_,a⟩:=Z3 h.eU;rw[a]at b;have c1:=z7 b 1;clear h b a;delta cP;go_in;go_wp2;go_ret;exact⟨aS,rfl⟩
theorem P9(h:bC w hb g c TK AK tw As (TT++[X]))(q:TK.length<=12)(r:TT.length<=500)(s:i<=TK.length):cP 262 #[pT hb,iI i] w λe w'=>e=.returned (iI (X.t.aI i TK.length))/\eX w w':=by have f:=h.aL;obtain⟨_,_,b⟩:=Z3 h.ts;rw[b]at f;have c0:=z7 f 0;obtain⟨_,k,a,_⟩:=h.gC;obtain⟨o,_,_,_⟩:=a.cell k (i:=i) (j:=TK.length) aA aA;have d:=q8 (tg h aC aM);have p:i<13:=aA;have n:TK.length<13:=aA;rw[bK,iR,rT]at d;obtain⟨m,l⟩:∃m,TT.length*681=m:=⟨_,rfl⟩;rw[l]at d o;clear h f k a b l;delta cP;go_in;go_wp2_with fail;refine d.mono ?_;rintro e _ ⟨rfl,rfl⟩;exact ZbS
theorem qB0(h:bC w hb g c TK AK tw As (TT++[X]))(y:TK.length<=12)(q:AK.length<=16)(z:TT.length<=500)(A:i<TK.length)(B:j<TK.length):cP 264 #[pT hb,iI i,iI j] w λe w'=>e=.returned (iI ((if 0<X.t.aI j i then AK.length+i*12+j else AK.length+j*12+i:Nat):Int))/\eX w w':=by obtain⟨_,o,b,_⟩:=h.gC;obtain⟨u,_,_,_⟩:=b.cell o (i:=j) (j:=i) aA aA;have d:=q8 (tg h aC aM);have s:i<13:=aA;have p:j<13:=aA;have hd:=h.ext ((eR w).drew) (λ_ _ f=>f);obtain⟨n,k⟩:=aH (zZ5 hd q (i:=i) (j:=j) aA aA) (zZ5 hd q (i:=j) (j:=i) aA aA);rw[bK,iR,rT]at d;obtain⟨m,r⟩:∃m,TT.length*681=m:=⟨_,rfl⟩;rw[r]at d u;clear h o b r hd;by_cases a:0<X.t.aI j i;{have l:decide (0<X.t.aI j i)=true:=fS a;rw[aJ a];delta cP;go_in;go_wp2_with fail;refine d.mono ?_;rintro e t ⟨rfl,rfl⟩;go_wp2_with fail;refine n.mono ?_;rintro e x ⟨rfl,rfl⟩;exact ZbS};have l:decide (0<X.t.aI j i)=false:=gj a;rw[aF a];have v:X.t.aI j i<=0:=aA;clear a;delta cP;go_in;go_wp2_with fail;refine d.mono ?_;rintro e t ⟨rfl,rfl⟩;go_wp2_with fail;refine k.mono ?_;rintro e x ⟨rfl,rfl⟩;exact ZbS
end
def H6(As:List (PA × Bool)):List (At × Bool):=As.map (fun x=>(x.1.at_,x.2))
theorem A7{As:List (PA×Bool)}{k:Nat}{x:PA×Bool}(h:As[k]?=some x):(H6 As)[k]?=some (x.1.at_,x.2):=by simp[H6,h]
theorem qk7{As:List (PA × Bool)}{k:Nat}{x:PA × Bool}(h:As[k]?=some x):(Y9 As)[k*5]?=some (.string x.1.wd)/\(Y9 As)[k*5+1]?=some (iI x.1.i)/\(Y9 As)[k*5+2]?=some (iI x.1.j)/\(Y9 As)[k*5+3]?=some (iI x.1.b)/\(Y9 As)[k*5+4]?=some (.bool x.2):=by
 have hk:=(aX.1 h).1
 have e:As=As.take k++x::As.drop (k+1):=by
  have e1:=(iP k As).symm
  rw[qB hk,(aX.1 h).2] at e1
  exact e1
 have hl:∀ l:List (PA × Bool),(Y9 l).length=l.length*5:=by
  intro l
  induction l with
  | nil=>rfl
  | cons a b ih=>simp only[Y9,List.flatMap_cons,List.length_append] at ih ⊢;simp[PA.cells] at ih ⊢;omega
 have e2:Y9 As=Y9 (As.take k)++([.string x.1.wd,iI x.1.i,iI x.1.j,iI x.1.b,.bool x.2]++Y9 (As.drop (k+1))):=by
  conv=>lhs;rw[e]
  simp[Y9,PA.cells]
 have rA:(Y9 (As.take k)).length=k*5:=by rw[hl,dd];congr 1;omega
 rw[e2]
 refine⟨?_,?_,?_,?_,?_⟩
 ·rw[cB (by omega),rA,Nat.sub_self];rfl
 all_goals (rw[cB (by omega),rA,rU];rfl)
section
variable{w:ao}{hb g:Nat}{c:cm}{TK:List Z7}{AK:List PA}{tw:List (Nat × Nat)}{As:List (PA × Bool)}{TT:List O3}{X:O3}{F:Fx}
def JC(w:ao)(hb g:Nat)(c:cm)(TK:List Z7)(AK:List PA)(tw:List (Nat × Nat))(As:List (PA × Bool))(TT:List O3)(X:O3)(F:Fx)(R:O3->Prop)(e:Ending)(w':ao):Prop :=
 ∃ Y ok,e=.returned (.bool ok)/\bC w' hb g c TK AK tw As (TT++[Y])/\q9 (fun k=>k=g) w w'/\Ar.ep (F.n+1) F.far F.V (HA (H6 As)) As.length X Y ok/\(ok=true->R Y)
structure PtW(w:World)(hb g:Nat)(c:cm)(TK:List Z7)(AK:List PA)(tw:List (Nat × Nat))(As:List (PA × Bool))(TT:List O3)(X:O3)(F:Fx)(P:O3->Prop)(wr:World):Prop where
 ex:∃ Y,bC wr hb g c TK AK tw As (TT++[Y])/\q9 (fun k=>k=g) w wr/\Ar.ep (F.n+1) F.far F.V (HA (H6 As)) As.length X Y true/\P Y
theorem qM0(h:bC w hb g c TK AK tw As (TT++[X]))(hF:F.n=TK.length)(hT:TK.length<=12)(hl:TT.length<=500)(hAs:As.length<=190)(I:∀x∈As,x.1.at_.Ok/\x.1.i<TK.length/\x.1.j<TK.length)(hI:bU (F.n+1) F.far F.V (HA (H6 As)) As.length X.t)(Q:F.far<=1000000):cP 268 #[pT hb] w (JC w hb g c TK AK tw As TT X F (λY=>Y.news=false->∀x∈H6 As,lL Y.t x)):=by
 have kb:=h.aL;obtain⟨sa,_,C⟩:=Z3 h.ss;have cU:=j9 kb;rw[C]at kb;have c3:=z7 kb 3;obtain⟨H,HI,iZ⟩:=aQ h hI I;clear h kb hI I;delta cP;go_in;go_wp2;go_loopw [10](λi wr=>∃j:Nat,j<=As.length/\i=iI j/\PtW w hb g c TK AK tw As TT X F (λY=>Y.news=false->∀x∈(H6 As).take j,lL Y.t x) wr)(λi _=>As.length-(intOf i).toNat);case atStart=>exact ZgD
 case round=>obtain⟨j,_,rfl,Y,S,hx,hP,hQ⟩:=hrel;obtain⟨P,HX,T,HQ⟩:=bH S hx hP hQ;by_cases aZ:j<As.length;{obtain⟨⟨x,yes⟩,q⟩:∃x,As[j]?=some x:=⟨_,aU aZ⟩;obtain⟨E,JD,M⟩:=iZ _ (bg q);obtain⟨gs,rfl,_⟩:∃gs,sa=some (aD gs 0)/\gs<wr.heap.size:=by{rcases S.ss.2 with⟨e,_⟩|⟨g',_,_,hv,_,hh,_⟩;omega;rw[C]at hv;exact rL};have D:=S.ss;rw[C]at D;obtain⟨q0,q1,q2,q3,q4⟩:=qk7 q;have x0:=(D.cellAt (j*5) aA).trans q0;have x1:=(D.cellAt (j*5+1) aA).trans q1;have x2:=(D.cellAt (j*5+2) aA).trans q2;have x3:=(D.cellAt (j*5+3) aA).trans q3;have x4:=(D.cellAt (j*5+4) aA).trans q4;have p:=q8 q;have hw:=PA.words E;have oj:=q8 E;obtain⟨_,s,A,U⟩:=x;simp only at hw x0 x1 x2 x3 x4 JD M;clear S hx hP hQ q D q0 q1 q2 q3 q4 E;rcases hw with rfl|rfl|rfl|rfl;{cases yes with|true=>(go_wp2;go_roundw;(case measure=>exact bf);case rel=>refine⟨j+1,aA,aS,Y,P.o.ext ((eR wr).alloc _) (λ_ _ f=>f),HX.o.trans ((rr wr).alloc _),T.o,λhn y t=>?_⟩;rw[fR,A7 p.o]at t;rcases ct.1 t with e|e;exact HQ.o hn y e;simp at e;subst e;intro _ e3;simp at e3)|false=>obtain⟨V,hV⟩:∃V,wr.alloc (.cells #[ai ⟨#[61]⟩,iI s,iI A,iI U,af] 382)=V:=⟨_,rfl⟩;have O:eX wr V:=yr;have kA:V.heap[wr.heap.size]?=ad #[ai ⟨#[61]⟩,iI s,iI A,iI U,af] 382:=ET;have hAl:=j9 kA;have r:Hid (∀W,eX wr W->cP 259 #[pT hb] W λe w'=>e=.returned (.pointer (some ⟨g,TT.length*681,none⟩))/\eX wr w'/\w'.heap=W.heap):=by{intro W bm;have:=tg (P.o.ext bm (λ_ _ f=>f)) aC aM;exact ZfZ};have vI:Hid (∀W,eX wr W->cP 179 #[iI j] W λe w'=>e=.returned (.agg #[iV (M3.of j).a.toNat,iV (M3.of j).b.toNat,iV (M3.of j).c.toNat])/\eX wr w'/\eX W w'):=λW bm=>(GN j aA W).mono (λe w' h=>⟨h.1,bm.trans h.2,h.2⟩);obtain⟨_,kg,B,d⟩:=P.o.gC;have l:∀v,F.V v->Hs (HA (H6 As)) (M3.of j) v->v s≠v A:=by{intro v hv hh;have:=hh j (by rw[M3.wD aA];simp) _ (A7 p.o);rw[At.MK _ (by exact Jv)]at this;exact of_decide_eq_false this};have L:Hid (∀W,eX wr W->cP 273 #[.pointer (some ⟨g,TT.length*681,none⟩),iI s,iI A,.agg #[iV (M3.of j).a.toNat,iV (M3.of j).b.toNat,iV (M3.of j).c.toNat]] W λe G=>∃Z ok,e=.returned (.bool ok)/\bC G hb g c TK AK tw As (TT++[Z])/\q9 (λk=>k=g) w G/\Ar.ep (TK.length+1) F.far F.V (HA (H6 As)) As.length Y Z ok/\(ok=true->Z.news=false->Z.t.aI s A≠0/\Z.t.aI A s≠0)):=by{intro W bm;refine(jd5 (bm.K kg) B aA aA aA (X:=Y) (far:=F.far) (V:=F.V) (H:=HA (H6 As)) (K:=As.length) (mw:=M3.of j) ?_ Q ?_ l).mono ?_;have:=T.o.inv rfl;rw[hF]at this;exact cS;intro k hk;rw[M3.wD aA]at hk;exact E5;rintro e G ⟨Z,ok,he,J,Eh,Ei⟩;exact⟨Z,ok,he,d G Z (ja.trans (bm.M) (V9.refl _ _) J),HX.o.trans ((bm.M).trans J.1),Eh,Ei⟩};have kh:=q8 hV;have ZkC:eX wr V.drew:=O.drew;obtain⟨_,_⟩:=cz kA 1 2;have KA:=q8 kA;obtain⟨m,hm⟩:∃m,TT.length*681=m:=⟨_,rfl⟩;rw[hm]at r L;clear hV kA kg B d l hm O;go_wp2;rw[kh.o];go_region_law (go_simp;go_wp2_with(first|(go_at_call 259;refine(r.o _ iO).mono ?_;rintro e wa ⟨rfl,_,R⟩;have ka:wa.heap[wr.heap.size]?=ad #[ai ⟨#[61]⟩,iI s,iI A,iI U,af] 382:=(by rw[R];first|(exact KA.o)|assumption);have va1:=z7 ka 1;have va2:=z7 ka 2;clear R)|(go_at_call 179;refine(vI.o _ iO).mono ?_;rintro e wb ⟨rfl,_,n⟩;have N:wb.heap[wr.heap.size]?=ad #[ai ⟨#[61]⟩,iI s,iI A,iI U,af] 382:=(by first|(exact(n.block _ hAl id).trans KA.o)|exact(n.block _ (j9 ‹_›) id).trans ‹_›);have vb1:=z7 N 1;have vb2:=z7 N 2;clear n)|(go_at_call 273;refine(L.o _ iO).mono ?_;rintro e G ⟨Z,ok,rfl,z⟩;have u:=q8 z;clear z)|fail));all_goals obtain⟨f1,f2,f3,f4⟩:=u.o;rw[<-hF]at f3;obtain⟨F1,F2,F3,F5,F4⟩:=dS f1 f2 (T.o.trans f3) f3 f4;clear f1 f2 f3 f4 u;cases ok with|false=>(go_wp2;go_ret;exact⟨Z,false,rfl,F1.o,F2.o,F3.o,λe=>bI⟩)|true=>go_wp2;go_roundw;(case measure=>exact bf);case rel=>refine⟨j+1,aA,aS,Z,F1.o,F2.o,F3.o,λhn y t=>?_⟩;rw[fR,A7 p.o]at t;rcases ct.1 t with e|e;exact Zi0;simp at e;subst e;intro _ _;exact F4.o rfl hn};all_goals go_wp2;go_roundw;(case measure=>exact bf);case rel=>refine⟨j+1,aA,aS,Y,P.ext ((eR wr).alloc _) (λ_ _ f=>f),HX.trans ((rr wr).alloc _),T,λhn y t=>?_⟩;rw[fR,A7 p.o]at t;rcases ct.1 t with e|e;exact HQ hn y e;simp at e;subst e;intro e2;first|(exact absurd e2 Jw)|(exact absurd e2 Jy)|exact absurd e2 Jz};have mT:j=As.length:=aA;subst mT;clear S hx hP hQ;go_wp2;go_ret;exact⟨Y,true,rfl,P,HX,T,λ_ hn x hx=>HQ hn x ZgA⟩
end
end
section
variable{C:Array au}{n g' cap:Nat}{X:O3}{w0 w3:ao}
theorem jJ1:(prog.info? 382).map (λi=>(i.zero,i.size,i.bytes))=some (some (.agg #[ag,iI 0,iI 0,iI 0,af]),5,48):=aG
def JE(p:Addr)(n:Nat):Sem (Array au):=loadCellsFrom p 0 n #[]
theorem JF(p:Addr):loadCellsFrom p 0 681 #[]=JE p 681:=rfl
def Qa(ps:Array (Nat × au)):Sem au:=Instr.buildSlice 192 1 ps
theorem Qb(ps:Array (Nat×au)):Instr.buildSlice 192 1 ps=Qa ps:=rfl
attribute [local go_sem ↓] JF Qb
theorem qB4(D:Array au):∀(k:Nat)(l:List (au×Nat))(C:Array au),(∀j,j<l.length->∃v,l[j]?=some (v,k+j)/\D[k+j]?=some v)->C.size=D.size->k+l.length=D.size->(∀j,j<k->C[j]?=D[j]?)->l.foldl (λcs p=>cs.setIfInBounds (0+p.2) p.1) C=D|k,[],C,_,hs,hl,hC=>by{simp at hl;apply Array.ext_getElem?;intro j;by_cases a:j<k;exact hC j a;rw[List.foldl_nil,tI aA,tI aA]}|k,p::l,C,h,hs,hl,hC=>by obtain⟨v,c,b⟩:=h 0 aC;simp at c;subst c;simp only[List.foldl_cons];refine qB4 D (k+1) l _ (λj a=>?_) (by simp[hs]) Sq (λj a=>?_);obtain⟨d,f,g⟩:=h (j+1) aM;exact⟨d,by simpa[Nat.add_assoc,Nat.add_comm 1 j]using f,by rw[show k+1+j=k+(j+1)by omega];exact g⟩;simp at b;simp only[oy];rw[X4];simp at hl;by_cases e:k=j;subst e;rw[aJ rfl,aJ aA];exact b.symm;rw[aF e];exact hC j aA
theorem qk8(W:ao)(D:Array au)(h:D.size=681):(Qa #[(0,.agg D)]).run prog W=.ok (.slice (sA W.heap.size) 1 1) (W.alloc (.cells D 203)):=by
 obtain⟨_,g,d,e,_⟩:=bJ JA;have b:Instr.fill (λi=>some (i*681,681)) ((Array.range 681).map (ti.cells[·%ti.cells.size]!)) [(0,.agg D)]=some D:=by have k:(Value.agg D).cells=D:=rfl;have a:((Array.range 681).map (ti.cells[·%ti.cells.size]!)).size=681:=aC;simp only[Instr.fill,k,h];rw[a,aF aC];refine jn some ?_;simp only[Nat.zero_mul];rw[<-Array.foldl_toList];refine qB4 D 0 _ _ (λj c=>?_) (by rw[a,h]) aC (λj c=>aA);simp at c;exact⟨D[j],by simp[c],by simp[c]⟩
 have a:∀W,(sizeOf 203).run prog W=.ok 681 W:=λW=>by simp[sizeOf,typeInfo,g,e]
 have f:∀W,(zeroValue 203).run prog W=.ok ti W:=λW=>by simp[zeroValue,typeInfo,g,d]
 unfold Qa Instr.buildSlice;simp only[Sem.run_bind,run_underlying underlying192,Result.andThen_ok,a,Nat.one_mul];rw[aF aE,aF aE];simp only[Sem.run_bind,f,Result.andThen_ok,Sem.run_pure];rw[b];simp[newRow]
theorem JG(P:Program)(w:ao)(p:Addr)(n:Nat)(D:Array au)(b:D.size=n)(h:∀j v,D[j]?=some v->w.cell? (p.add j)=some v):(JE p n).run P w=.ok D w:=by subst b;have:=run_loadCells_list (P:=P) w p D.toList (λj v a=>h j v (by simpa using a));simpa[loadCells,JE]using this
theorem Y5.one{o:Nat}(h:Y5 C o n X){q:Nat}(d:q<681):∃v,C[o+q]?=some v/\v.oneCell'=true:=by by_cases f:q<676;have b:q/52<13:=aA;have a:q%52/4<13:=aA;have c:q%4=0\/q%4=1\/q%4=2\/q%4=3:=aA;rcases c with e|e|e|e;exact⟨_,by rw[show o+q=o+q/52*52+q%52/4*4 by omega];exact h.aI _ _ b a,rfl⟩;exact⟨_,by rw[show o+q=o+q/52*52+q%52/4*4+1 by omega];exact h.wa _ _ b a,rfl⟩;exact⟨_,by rw[show o+q=o+q/52*52+q%52/4*4+2 by omega];exact h.wb _ _ b a,rfl⟩;exact⟨_,by rw[show o+q=o+q/52*52+q%52/4*4+3 by omega];exact h.wc _ _ b a,rfl⟩;have c:q=676\/q=677\/q=678\/q=679\/q=680:=aA;rcases c with rfl|rfl|rfl|rfl|rfl;exact⟨_,h.size,rfl⟩;exact⟨_,h.news,rfl⟩;exact⟨_,h.xa,rfl⟩;exact⟨_,h.xb,rfl⟩;exact⟨_,h.xc,rfl⟩
theorem Y5.JH(h:Y5 C 0 n X)(f:C.size=681):∀u∈C.toList,u.oneCell'=true:=by
 intro u e;obtain⟨q,c,rfl⟩:=BC e;have a:q<681:=by simpa[f]using c
 obtain⟨_,b,d⟩:=h.one a;rw[oy]at b;have:=(Array.getElem?_eq_some_iff.1 b).2;simp[this,d]
theorem Qc:ti.cells.size=681:=iN
section
variable{w W:ao}{hb g:Nat}{c:cm}{TK:List Z7}{AK:List PA}{tw:List (Nat × Nat)}{As Qd:List (PA × Bool)}{TT TT':List O3}
theorem bC.A8(h:bC w hb g c TK AK tw As TT):¬g=hb/\(∀k,c.tv.ownBlock=some k\/c.av.ownBlock=some k\/c.wv.ownBlock=some k\/c.sv.ownBlock=some k->¬k=hb/\¬k=g)/\∀k,c.tv.ownBlock=some k\/c.av.ownBlock=some k\/c.wv.ownBlock=some k->¬c.sv.ownBlock=some k:=by obtain⟨_,_,_,b,_,_,_,_⟩:=h.tb.ex;refine⟨λe=>?_,λk a=>?_,λk a f=>?_⟩;have:=h.aL;rw[<-e,b]at this;exact fQ;rcases a with a|a|a|a;exact⟨λe=>K8 h.ts h.aL aE (e▸a),λe=>K8 h.ts b aE (e▸a)⟩;exact⟨λe=>K8 h.eU h.aL aE (e▸a),λe=>K8 h.eU b aE (e▸a)⟩;exact⟨λe=>K8 h.tw h.aL aE (e▸a),λe=>K8 h.tw b aE (e▸a)⟩;exact⟨λe=>K8 h.ss h.aL aE (e▸a),λe=>K8 h.ss b aE (e▸a)⟩;obtain⟨_,d⟩:=O4 h.ss f;rcases a with a|a|a;exact K8 h.ts d aE a;exact K8 h.eU d aE a;exact K8 h.tw d aE a
theorem bC.Zex{f:au}(h:bC w hb g c TK AK tw As TT)(d:q9 (λk=>k=hb\/c.sv.ownBlock=some k) w W)(n:W.heap[hb]?=ad #[c.tv,c.av,c.wv,f,c.bv] 194)(p:W.ownsRow 0 382 5 f Qd.length (Y9 Qd)):bC W hb g ⟨c.tv,c.av,c.wv,f,c.bv⟩ TK AK tw Qd TT:=by obtain⟨l,b,i⟩:=h.A8;obtain⟨cap,C,m,j,o⟩:=h.tb.ex;refine⟨n,j8 h.ts d (λk a e=>?_),j8 h.eU d (λk a e=>?_),j8 h.tw d (λk a e=>?_),p,⟨cap,C,m,(d.block _ (j9 j) (λe=>?_)).trans j,o⟩⟩;exact e.elim (b k (.inl a)).1 (i k (.inl a));exact e.elim (b k (.inr (.inl a))).1 (i k (.inr (.inl a)));exact e.elim (b k (.inr (.inr (.inl a)))).1 (i k (.inr (.inr a)));exact e.elim l (λe=>(b g (.inr (.inr (.inr e)))).2 rfl)
theorem bC.Zey{f:au}(h:bC w hb g c TK AK tw As TT)(d:q9 (λk=>k=hb\/k=g) w W)(i:W.heap[hb]?=ad #[c.tv,c.av,c.wv,c.sv,f] 194)(j:rz W f g' (TK.length+1) TT'):bC W hb g' ⟨c.tv,c.av,c.wv,c.sv,f⟩ TK AK tw As TT':=by obtain⟨_,b,_⟩:=h.A8;refine⟨i,j8 h.ts d (λk a e=>?_),j8 h.eU d (λk a e=>?_),j8 h.tw d (λk a e=>?_),j8 h.ss d (λk a e=>?_),j⟩;exact e.elim (b k (.inl a)).1 (b k (.inl a)).2;exact e.elim (b k (.inr (.inl a))).1 (b k (.inr (.inl a))).2;exact e.elim (b k (.inr (.inr (.inl a)))).1 (b k (.inr (.inr (.inl a)))).2;exact e.elim (b k (.inr (.inr (.inr a)))).1 (b k (.inr (.inr (.inr a)))).2
theorem bC.Zez{b:Nat}{x:PA}{yes:Bool}(h:bC w hb g c TK AK tw As TT)(i:eX w w0)(a:w0.grownBy w3 c.sv.ownBlock)(ck:w3.ownsRow 0 382 5 (az b (As.length+1) cap) (As.length+1) (Y9 As++[ai x.wd,iI x.i,iI x.j,iI x.b,.bool yes])):bC (w3.setCell (aD hb 3) (az b (As.length+1) cap)) hb g ⟨c.tv,c.av,c.wv,az b (As.length+1) cap,c.bv⟩ TK AK tw (As++[(x,yes)]) TT/\q9 (λk=>k=hb\/c.sv.ownBlock=some k) w (w3.setCell (aD hb 3) (az b (As.length+1) cap)):=by
 obtain⟨_,j,_⟩:=h.A8;have d:q9 (λk=>c.sv.ownBlock=some k) w w3:=(i.M).grown a (λk hk _=>hk);have hW:q9 (λk=>k=hb) w3 (w3.setCell (aD hb 3) (az b (As.length+1) cap)):=(q9.refl (λk=>k=hb) w3).sc hb 3 _;have f:q9 (λk=>k=hb\/c.sv.ownBlock=some k) w (w3.setCell (aD hb 3) (az b (As.length+1) cap)):=(d.mono (λ_ _ e=>.inr e)).trans' hW (λ_ _ e=>.inl e);have hH:=(d.block hb (j9 h.aL) (λe=>(j hb (.inr (.inr (.inr e)))).1 rfl)).trans h.aL;refine⟨h.Zex f (X6 hH 3 _) ?_,f⟩;have e:Y9 (As++[(x,yes)])=Y9 As++[ai x.wd,iI x.i,iI x.j,iI x.b,.bool yes]:=by simp[Y9,PA.cells]
 exact Zjf
theorem bC.ZeA(h:bC w hb g c TK AK tw As (TT++[X]))(l:w.heap[g]?=ad C 203)(n:eX w w0)(a:w0.grownBy w3 (some g))(ck:w3.ownsRow 0 203 681 (az g' (TT.length+1+1) cap) (TT.length+1+1) (C.toList.take ((TT.length+1)*681)++(C.extract (TT.length*681) (TT.length*681+681)).toList)):bC (w3.setCell (aD hb 4) (az g' (TT.length+1+1) cap)) hb g' ⟨c.tv,c.av,c.wv,c.sv,az g' (TT.length+1+1) cap⟩ TK AK tw As (TT++[X]++[X])/\q9 (λk=>k=hb\/k=g) w (w3.setCell (aD hb 4) (az g' (TT.length+1+1) cap)):=by
 obtain⟨r,_,_⟩:=h.A8;obtain⟨b,o,_,d,q,h4,_,j⟩:=h.tb.ex;rw[l]at d;obtain rfl:C=o:=by simpa using d
 have f:q9 (λk=>k=g) w w3:=(n.M).grown a (λk hk _=>by simpa using hk.symm);have hW:q9 (λk=>k=hb) w3 (w3.setCell (aD hb 4) (az g' (TT.length+1+1) cap)):=(q9.refl (λk=>k=hb) w3).sc hb 4 _;have i:q9 (λk=>k=hb\/k=g) w (w3.setCell (aD hb 4) (az g' (TT.length+1+1) cap)):=(f.mono (λ_ _ e=>.inr e)).trans' hW (λ_ _ e=>.inl e);have hH:=(f.block hb (j9 h.aL) (λe=>r e.symm)).trans h.aL;refine⟨h.Zey i (X6 hH 4 _) ?_,i⟩;have p:(TT++[X]).length=TT.length+1:=aC;rw[p]at h4;refine rz.push (C:=C) (D:=C.extract (TT.length*681) (TT.length*681+681)) (m:=TT.length+1) j rfl aC ?_ ((j TT.length X aC).cut) rfl ?_;have e:C.toList.length=b*681:=by rw[<-q];simp
 exact ZhA;exact Zk2
end
end
section
variable{n k cap:Nat}{x:Z7}
theorem Qe{w:ao}{e size:Nat}{a:Option Addr}{xs:ak}(h:w.ownsRow 0 e size (.slice a n cap) n xs)(j:k<=n):w.ownsRow 0 e size (.slice a k cap) k (xs.take (k*size)):=by have p:=oC size j;refine⟨by rw[dd,h.1];omega,?_⟩;rcases h.2 with⟨d,_⟩|⟨g,b,c,f,m,i,_,l,o,q⟩;have:k=0:=aA;subst this;simp at d;exact .inl ⟨by simp[d],rfl⟩;refine .inr ⟨g,b,c,by simp at f⊢;exact f,m,i,aA,l,o,?_⟩;rw[<-q,qC,ig p]
theorem Qf:∀l:List (PA×Bool),(Y9 l).length=l.length*5|[]=>rfl|a::b=>by have c:=Qf b;simp only[Y9,BK,bK]at c⊢;simp[PA.cells]at c⊢;omega
theorem je3(As:List (PA × Bool))(k:Nat):(Y9 As).take (k*5)=Y9 (As.take k):=by
 by_cases hk:k<=As.length
 ·conv=>lhs;rw[<- iP k As]
  have e:Y9 (As.take k++As.drop k)=Y9 (As.take k)++Y9 (As.drop k):=by simp only[Y9,BO]
  rw[e,List.take_left']
  rw[Qf,dd,ig hk]
 ·rw[cj (by rw[Qf];omega),cj (by omega)]
section
variable{w:ao}{hb g:Nat}{c:cm}{TK:List Z7}{AK:List PA}{tw:List (Nat × Nat)}{As:List (PA × Bool)}{TT:List O3}{X:O3}
theorem rz.cut{a:au}(h:rz w a g n TT)(b:k<=TT.length):∃cap,a=az g TT.length cap/\TT.length<=cap/\rz w (az g k cap) g n (TT.take k):=by obtain⟨cap,C,i,e,m,f,l,c⟩:=h.ex;refine⟨cap,i,f,⟨cap,C,?_,e,m,nC,l,λj Y d=>c j Y (lO d).2⟩⟩;rw[dd,ig b]
def BkC(w:ao)(hb g:Nat)(c:cm)(TK:List Z7)(AK:List PA)(tw:List (Nat × Nat))(As:List (PA × Bool))(TT:List O3)(n:Nat)(w':ao):Prop :=
 ∃ a b,bC w' hb g ⟨c.tv,c.av,c.wv,a,b⟩ TK AK tw (As.take n) (TT.take (n+1))/\a.ownBlock=c.sv.ownBlock/\q9 (fun k=>k=hb) w w'
theorem je4{f:Option Addr}{sc:Nat}(h:bC w hb g c TK AK tw As TT)(b:c.sv=.slice f As.length sc)(m:c.bv=az g TT.length cap)(v:n<=As.length)(o:n+1<=TT.length):BkC w hb g c TK AK tw As TT n ((w.setCell (aD hb 3) (.slice f n sc)).setCell (aD hb 4) (az g (n+1:Nat) cap)):=by
 obtain⟨x,l,_⟩:=h.A8;have d:q9 (λk=>k=hb) w ((w.setCell (aD hb 3) (.slice f n sc)).setCell (aD hb 4) (az g (n+1:Nat) cap)):=((q9.refl (λk=>k=hb) w).sc hb 3 _).sc hb 4 _;obtain⟨i,r,_,p⟩:=h.tb.cut o;rw[m]at r;obtain rfl:cap=i:=by simpa using r
 refine⟨.slice f n sc,az g (n+1:Nat) cap,⟨X6 (X6 h.aL 3 _) 4 _,j8 h.ts d (λk a e=>(l k (.inl a)).1 e),j8 h.eU d (λk a e=>(l k (.inr (.inl a))).1 e),j8 h.tw d (λk a e=>(l k (.inr (.inr (.inl a)))).1 e),?_,?_⟩,?_,d⟩;have q:=h.ss;rw[b]at q;have:=Qe q v;rw[je3]at this;have e:(As.take n).length=n:=nC;rw[e];refine j8 this d (λk a e=>(l k (.inr (.inr (.inr ?_)))).1 e);rw[b];cases f with|none=>(simp[Value.ownBlock]at a)|some y=>simpa[Value.ownBlock]using a
 obtain⟨j,C,t,s,u⟩:=p.ex;exact⟨j,C,t,(d.block _ (j9 s) x).trans s,u⟩;rw[b];cases f<;>rfl
theorem js9(h:bC w hb g c TK AK tw As TT)(r:n<=As.length)(i:n+1<=TT.length)(t:TT.length<=1000):cP 254 #[pT hb,iI n] w λe w'=>(∃v,e=.returned v)/\BkC w hb g c TK AK tw As TT n w':=by
 have j:=h.aL;obtain⟨_,sc,a⟩:=Z3 h.ss;obtain⟨cap,b,_,_⟩:=h.tb.cut i;have s:=q8 (je4 h a b r i);have d:As.length<=sc/\sc<=maxLen:=by rcases h.ss.2 with⟨e,_⟩|⟨_,f,_,m,_,_,_,_,_⟩;rw[a]at e;simp at e;omega;rw[a]at m;simp at m;omega
 have k:cap<=maxLen:=by obtain⟨f,_,l,_,_,_,_,_⟩:=h.tb.ex;rw[b]at l;simp at l;omega
 unfold maxLen at d k;rw[a,b]at j;obtain⟨_,_,_,_⟩:=dT j 3 4 3 4;have o:=j9 j;have p:=d.1;have q:=d.2;clear h j a b d;delta cP;go_in;go_wp2;go_end0;exact⟨⟨_,rfl⟩,s⟩
theorem qB5(h:bC w hb g c TK AK tw As (TT++[X]))(A:TT.length<=500):cP 255 #[pT hb] w λe w'=>e=.returned (.agg #[iU X.bZ.a,iU X.bZ.b,iU X.bZ.c])/\eX w w':=by obtain⟨W,hW⟩:∃W,w.alloc (.cells #[iV 0,iV 0,iV 0] 197)=W:=⟨_,rfl⟩;have b:eX w W:=Li;have n:W.heap[w.heap.size]?=ad #[iV 0,iV 0,iV 0] 197:=Kx;have a:=h.ext b (λ_ _ f=>f);obtain⟨_,d,j,_⟩:=a.gC;have q:W.cell? ⟨g,TT.length*681+678,none⟩=some (iU X.bZ.a):=(z7 d _).trans j.xa;have y:W.cell? ⟨g,TT.length*681+678+1,none⟩=some (iU X.bZ.b):=(z7 d _).trans j.xb;have x:W.cell? ⟨g,TT.length*681+678+2,none⟩=some (iU X.bZ.c):=(z7 d _).trans j.xc;have l:=q8 (tg a aC aM);rw[bK,iR,rT]at l;obtain⟨m,p⟩:∃m,TT.length*681=m:=⟨_,rfl⟩;rw[p]at l q y x;have z:=j9 d;obtain⟨s,t,r,_,_,_⟩:=oJ n 0 1 2 0 1 2;have u:=j9 n;obtain⟨o,k⟩:=aH hW b;clear h d j p a n hW b;delta cP;go_in;go_wp2_with fail;rw[o.o];refine l.mono ?_;rintro e _ ⟨rfl,rfl⟩;go_wp2_with fail;refine a6 (v:=.agg #[iU X.bZ.a,iU X.bZ.b,iU X.bZ.c]) (by simp[results,results255,go_sem,s,t,r]) rfl ⟨rfl,?_⟩;exact(k.drew).trans' (y' _ _ _ _ _) (λi _ e=>fq)
end
theorem X5{TK:List Z7}{q:Nat}{x:Z7}(h:TK[q]?=some x){j:Nat}{u:Value}(hu:x.cells[j]?=some u):(TK.flatMap Z7.cells)[q*6+j]?=some u:=by
 have hk:=(aX.1 h).1
 have e:TK=TK.take q++x::TK.drop (q+1):=by
  have e1:=(iP q TK).symm
  rw[qB hk,(aX.1 h).2] at e1
  exact e1
 have hl:∀ l:List Z7,(l.flatMap Z7.cells).length=l.length*6:=by
  intro l
  induction l with
  | nil=>rfl
  | cons a b ih=>simp only[List.flatMap_cons,List.length_append] at ih ⊢;simp[Z7.cells] at ih ⊢;omega
 have e2:TK.flatMap Z7.cells=(TK.take q).flatMap Z7.cells++(x.cells++(TK.drop (q+1)).flatMap Z7.cells):=by
  conv=>lhs;rw[e]
  simp
 have hj:j<6:=(aX.1 hu).1
 rw[e2,cB (by rw[hl,dd];have:=ig (lD hk);omega),hl,dd,ig (lD hk),rU,dx hj]
 exact hu
def iK(x:Z7):Array au:=#[.string x.nm,iI x.ar,iI x.a0,iI x.a1,iI x.a2,iI x.v]
section
variable{w:ao}{hb g:Nat}{c:cm}{TK:List Z7}{AK:List PA}{tw:List (Nat × Nat)}{As:List (PA × Bool)}{TT:List O3}
theorem bC.term(h:bC w hb g c TK AK tw As TT){q:Nat}(d:TK[q]?=some x):∃a i,c.tv=az a TK.length i/\a<w.heap.size/\w.cell? ⟨a,q*6,none⟩=some (ai x.nm)/\w.cell? ⟨a,q*6+1,none⟩=some (iI x.ar)/\w.cell? ⟨a,q*6+2,none⟩=some (iI x.a0)/\w.cell? ⟨a,q*6+3,none⟩=some (iI x.a1)/\w.cell? ⟨a,q*6+4,none⟩=some (iI x.a2)/\w.cell? ⟨a,q*6+5,none⟩=some (iI x.v):=by have k:=(aX.1 d).1;rcases h.ts.2 with⟨_,_⟩|⟨a,cap,_,e,_,f,_⟩;omega;have b:=h.ts;rw[e]at b;exact⟨a,cap,e,j9 f,(b.cellAt (q*6) aA).trans (X5 d (j:=0) rfl),(b.cellAt (q*6+1) aA).trans (X5 d rfl),(b.cellAt (q*6+2) aA).trans (X5 d rfl),(b.cellAt (q*6+3) aA).trans (X5 d rfl),(b.cellAt (q*6+4) aA).trans (X5 d rfl),(b.cellAt (q*6+5) aA).trans (X5 d rfl)⟩
end
section
variable{w:ao}{hb g:Nat}{c:cm}{TK:List Z7}{AK:List PA}{tw:List (Nat × Nat)}{As:List (PA × Bool)}{TT:List O3}
theorem qB1(h:bC w hb g c TK AK tw As TT){a b:Nat}{y:Z7}(s:TK[a]?=some x)(r:TK[b]?=some y):cP 271 #[pT hb,.agg #[iI a,iI b]] w λe w'=>∃p q,e=.returned (.func (.func 275) #[] #[pT p,pT q])/\w.heap.size<=p/\w.heap.size<=q/\eX w w'/\w'.heap[p]?=ad (iK x) 145/\w'.heap[q]?=ad (iK y) 145:=by obtain⟨W,hW⟩:∃W,w.alloc (.cells #[iI a,iI b] 151)=W:=⟨_,rfl⟩;have l:eX w W:=Li;have n:W.heap[w.heap.size]?=ad #[iI a,iI b] 151:=Kx;have j:=h.ext l (λ_ _ f=>f);obtain⟨_,_,k,_,_,_,_,_,_,_⟩:=j.term s;obtain⟨_,_,i,_,_,_,_,_,_,_⟩:=j.term r;rw[k]at i;simp at i;obtain⟨rfl,rfl⟩:=i;have m:=j.aL;rw[k]at m;have c0:=z7 m 0;obtain⟨_,_⟩:=cz n 0 1;have B:=(aX.1 s).1;have z:=(aX.1 r).1;have A:(a:Int)<TK.length:=aA;have v:(b:Int)<TK.length:=aA;have t:=j9 m;have u:=j9 n;obtain⟨o,d⟩:=aH hW l;clear h j m n hW l k;delta cP;go_in;go_wp2;rw[o.o];go_region;all_goals go_wp2;go_ret;first|(exact⟨W.heap.size,W.heap.size+1,rfl,d.size,Nat.le_succ_of_le d.size,((d.alloc _).alloc _).drew,(bP _ _ aC).trans (aN W _),heap_alloc2_new W _ _⟩)|exact⟨W.heap.size+1,W.heap.size,rfl,Nat.le_succ_of_le d.size,d.size,((d.alloc _).alloc _).drew,heap_alloc2_new W _ _,(bP _ _ aC).trans (aN W _)⟩
end
end
end Go.Proofs.YtegbdaffhpiacaaGreatDoor
