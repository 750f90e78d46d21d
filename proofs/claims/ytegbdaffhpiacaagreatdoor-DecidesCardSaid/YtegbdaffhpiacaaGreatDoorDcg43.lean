/- Part. -/
import Derived.Test.YtegbdaffhpiacaaGreatDoorDcg42
import Derived.Deep.RegionHeld3
set_option maxRecDepth 100000
set_option maxHeartbeats 4000000
namespace Go.Proofs.YtegbdaffhpiacaaGreatDoor
open Go.Proofs.Tryz
open Go.RowKit Ar
variable{c:List (List Ed)}{l:List Ed}{v tv v' sv:au}{x y:Nd}{T px py A L:List Nd}{j e size n k cap:Nat}{w w':ao}{xs vs vs3:ak}{D D' E:aj}{cs cs3:List (List (List Ed))}{kx ky vx vy:Int}{wx wy:ax}{bs:List Bool}{b:Bool}
theorem qv5{c:UInt8}(h:ij c=true):U5 c=false:=by simp[ij,U5]at*;omega
theorem jz9{l:List UInt8}(h:X7 l=true):numOf l=none:=by
 obtain⟨_,c,r,rfl,b,_⟩:=zk h;have a:¬c=45:=by rintro rfl;exact absurd b aE
 have d:Y6 (c::r)=c::r:=by simp[Y6,a]
 have hd:(c::r).all U5=false:=by simp[qv5 b]
 simp[numOf,d,hd]
theorem jO3{v:Int}(a:-1000<=v)(b:v<=1000):numOf (itoa v)=some v:=by have:=Cq a b;simp[zj]at this;exact this.1.1
theorem jk2(h:Y2 x):∀k w v ps,x=.mk k w v ps->(cf k w v).size<=600:=by intro k w v ps e;cases h with|num g f=>(cases e;have:=LD v;simp[cf,ByteArray.size];omega)|app a d c=>cases e;have b:w.toList.length<=8:=by{simp[X7]at a;exact a.2.2};rw[Z6]at b;simp[cf];omega
section
variable{w:ao}{wb:Nat}{D:aj}{T:List Nd}
theorem qR4(z:Nat)(h:T[j]?=some x):dG z 0 (T.take (j+1))=dG z 0 (T.take j)++lQ z j x:=by have a:=(aX.1 h).1;rw[H8 h,VT,dd,oy,show min j T.length=j by omega]
theorem OU(z:Nat):∀(T:List Nd)(i:Nat),(dG z i T).length<=2*T.length|[],i=>by{simp[dG]}|.mk k w v ps::T,i=>by have:=OU z T (i+1);simp only[dG,lQ,bK];split<;>simp<;>omega
theorem qF5{nv:au}(h0:w.cell? (aD wb 0)=some tv)(h1:w.cell? (aD wb 1)=some nv)(S:wb<w.heap.size)(hT:FR w tv T)(hN:NR w D nv T)(E:∀y∈T,Y2 y)(hl:T.length<=12):cP 123 #[pT wb] w λe w'=>∃v,e=.returned v/\Dr w v (dG T.length 0 T) w':=by
 obtain⟨_,_,rfl,_⟩:=hT.shape;obtain⟨_,nc,rfl,q⟩:=hN.shape;obtain⟨J,V,H1⟩:=aQ q E h1;clear hT hN q E;delta cP;go_in;go_wp2;go_loopw [3,5](λvv i wr=>∃j:Nat,j<=T.length/\i=iI j/\Dr w vv (dG T.length 0 (T.take j)) wr)(λ_ i _=>T.length-(intOf i).toNat);case atStart=>exact⟨0,aY _,rfl,Ov (rr _)⟩
 case round=>obtain⟨j,_,rfl,d⟩:=hrel;obtain⟨z,A,rfl,_⟩:=d.row.shape;have q1:=(d.ext.cell (p:=(aD wb 1)) S id).trans H1;have a:=q8 d;clear d h0 h1;by_cases P:j<T.length;{obtain⟨y,H⟩:∃y,T[j]?=some y:=⟨_,aU P⟩;obtain⟨g,b,rfl,O,hc,hb⟩:=J j y H;rw[<-a.o.ext.cell (p:=(aD g j)) O id]at hc;have M:=V y (bg H);have I:b<w.heap.size:=by{obtain⟨_,_,_,_,_,C,_⟩:=hb.form;exact j9 C};have s:=jk2 M;cases y with|mk k wd n ps=>obtain⟨_,_,o,_,_⟩:=(hb.ext a.o.ext (λ_ _ _ f=>f)).cells;obtain⟨_,d2⟩:=cz o 0 2;have B:=s k wd n ps rfl;have cU:=j9 o;have l:Hid (∀w,cP 170 #[ai (cf k wd n)] w λe w'=>e=.returned (.tuple #[iI ((numOf (cf k wd n).toList).getD 0),.bool (numOf (cf k wd n).toList).isSome])/\w'=w):=λw=>uf _ w bS;have F:=q8 (qR4 T.length H);have Dd:(dG T.length 0 (T.take j)).length<=24:=by{have:=OU T.length (T.take j) 0;have:(T.take j).length<=12:=aM;omega};cases M with|num N mJ=>(have h:numOf (cf 4 ay n).toList=some n:=by{have e:(cf 4 ay n).toList=itoa n:=ZiF;rw[e,jO3 N mJ]};rw[h]at l;have G:wK 4 n []=n:=by{simp[wK]};rw[G]at d2;obtain⟨i0,hi,Q,Z,X⟩:=bJ Ow;have r:wr.ownsRow 0 303 3 (.slice z (dG T.length 0 (T.take j)).length A) (dG T.length 0 (T.take j)).length (O0 (dG T.length 0 (T.take j))):=a.o.row;have L:=q8 r;have x:Hid (lQ T.length j (.mk 4 ay n [])=[⟨j,T.length,n⟩,⟨T.length,j,-n⟩]):=by{show lQ _ _ _=_;simp[lQ]};clear r H hb o s B h G;go_wp2_with(go_at_call 170;refine(l.o _).mono ?_;rintro e w' ⟨rfl,rfl⟩);have cJ:∀k,(Value.slice z (dG T.length 0 (T.take j)).length A).ownBlock=some k->w.heap.size<=k:=a.o.new;have hbw:b<w.heap.size:=I;have n1:=World.new_ne w' (aD wb 1) q1;have n2:=World.new_ne w' (aD g j) hc;have n3:=World.new_ne w' (aD b 2) d2;have uL:=a.o.ext.size;have qf:some wb≠(Value.slice z (dG T.length 0 (T.take j)).length A).ownBlock:=λe=>Zcl;have U:some g≠(Value.slice z (dG T.length 0 (T.take j)).length A).ownBlock:=λe=>Zcl;have R:some b≠(Value.slice z (dG T.length 0 (T.take j)).length A).ownBlock:=λe=>Zcl;have Zkm:IntKind.i64.wrap (-n)= -n:=by{rw[IntKind.wrap_i64];omega};go_region_held3 (λW=>W.cell? (aD wb 1)=some (az g T.length nc)/\W.cell? (aD g j)=some (pT b)/\W.cell? (aD b 2)=some (iI n))(first|(go_keep)|(go_split_ands;refine⟨?_,?_,?_⟩;(rw[c.cell_far _ aM qf];assumption);(rw[c.cell_far _ aM U];assumption);(rw[c.cell_far _ aM R];assumption)))((refine step_append_lies _ (by rfl) _ _ _ (by rfl) 0 303 i0 _ 3 24 underlying243 hi Q Z X rfl aA (.slice z (dG T.length 0 (T.take j)).length A) (dG T.length 0 (T.take j)).length (O0 (dG T.length 0 (T.take j))) (by rfl) ((L.o.alloc _).drew) (aD w'.heap.size 0) 2 2 [iI j,iI T.length,iI n,iI T.length,iI j,iI (-n)] (by rfl) (by rfl) (World.news_of_block (cs:=#[iI j,iI T.length,iI n,iI T.length,iI j,iI (-n)]) (t:=303) (fr:=(0,0)) (aN w' _)) rO aA bS aA (aY _) (w'.heap.size+1) aC ?_;intro _ _ _ u c K _));all_goals go_wp2;go_roundw;(case measure=>exact bf);case rel=>refine⟨j+1,aA,aS,?_⟩;rw[F.o,x.o];exact Ds (m:=[⟨j,T.length,n⟩,⟨T.length,j,-n⟩]) (wr:=(w'.alloc (.cells #[iI j,iI T.length,iI n,iI T.length,iI j,iI (-n)] 303)).drew) ⟨(a.o.ext.alloc _).drew,a.o.row.ext (((eR w').alloc _).drew) (λ_ _ f=>f),a.o.new⟩ u c (K.elim (λe=>.inl e.symm) (λe=>.inr (by rw[e];show some (w'.heap.size+1)=some (w'.alloc _).heap.size;simp))))|app hw mI hp=>have h:numOf (cf 3 wd 0).toList=none:=by{rw[show cf 3 wd 0=wd by exact ox];exact jz9 hw};rw[h]at l;have x:Hid (lQ T.length j (.mk 3 wd 0 ps)=[]):=by{show lQ _ _ _=_;simp[lQ]};clear H hb o s B h;go_wp2_with(go_at_call 170;refine(l.o _).mono ?_;rintro e w' ⟨rfl,rfl⟩);go_roundw;(case measure=>exact bf);case rel=>refine⟨j+1,aA,aS,?_⟩;rw[F.o,x.o,Fy];exact a.o};have d:=a.o;rw[cj aA]at d;have HF:=q8 d;have Y:Hid (T.take j=T):=cj aA;clear d;go_wp2;go_ret;rw[Y.o];exact⟨_,rfl,HF⟩
end
theorem OV(h:w.ownsRow 0 e size v n xs)(hk:v.ownBlock=some k):∃cur,w.heap[k]?=some (.cells cur e (0,0)):=by rcases h.2 with⟨rfl,_⟩|⟨_,_,cur,rfl,_,hh,_⟩;exact absurd hk gg;exact Zif
theorem vD{f a s1 s2 o q:Nat}{b c:au}{p l:ak}(j:w.ownsRow 0 f s1 b o p)(i:w.ownsRow 0 a s2 c q l)(n:¬f=a)(g:b.ownBlock=some k):¬c.ownBlock=some k:=by intro m;obtain⟨_,h⟩:=OV j g;obtain⟨_,d⟩:=OV i m;rw[h]at d;injection d with e;injection e with _ a _;exact n a
theorem OW{row:Option Nat}(a:w.grownBy w' row):q9 (λk=>row=some k) w w':=(rr w).grown a (λ_ b _=>b)
theorem dX.app{c3:List (List Ed)}(h:w.ownsRow 0 243 1 v c.length vs)(b:vs.length=c.length)(j:∀(i:Nat)(u:au)(l:List Ed),vs[i]?=some u->c[i]?=some l->ER w u l/\∀k,u.ownBlock=some k->D k)(f:vs3.length=c3.length)(d:∀(i:Nat)(u:au)(l:List Ed),vs3[i]?=some u->c3[i]?=some l->ER w u l/\∀k,u.ownBlock=some k->D k)(ck:w'.ownsRow 0 243 1 v' (c.length+c3.length) (vs++vs3))(m:w.grownBy w' v.ownBlock)(hD:∀k,D k->D' k)(p:∀k,v'.ownBlock=some k->D' k):dX w' D' v' (c++c3):=by have n:=OW m;have dZ:∀u l,ER w u l->ER w' u l:=λu l a=>a.ext n (λk hk e=>vD a h aE hk e);refine⟨vs++vs3,by simp[b,f],Zil,p,λi u l a g=>?_⟩;by_cases o:i<c.length;rw[dx aA]at a;rw[dx o]at g;have:=j i u l a g;exact Zij;rw[cB aA]at a;rw[cB aA]at g;rw[b]at a;have:=d _ u l a g;exact Zij
theorem dX.grown{u:au}(h:dX w D u c)(j:w.ownsRow 0 334 1 v n xs)(q:w.grownBy w' v.ownBlock):dX w' D u c:=by have g:=OW q;obtain⟨vs,o,m,p,d⟩:=h;exact⟨vs,o,j8 m g (λk a e=>vD m j aE a e),p,λi u l f b=>⟨(d i u l f b).1.ext g (λk a e=>vD (d i u l f b).1 j aE a e),(d i u l f b).2⟩⟩
theorem CR.app(h:w.ownsRow 0 334 1 v cs.length vs)(a:vs.length=cs.length)(g:∀(i:Nat)(u:au)(c:List (List Ed)),vs[i]?=some u->cs[i]?=some c->dX w D u c)(e:vs3.length=cs3.length)(d:∀(i:Nat)(u:au)(c:List (List Ed)),vs3[i]?=some u->cs3[i]?=some c->dX w D u c)(ck:w'.ownsRow 0 334 1 v' (cs.length+cs3.length) (vs++vs3))(j:w.grownBy w' v.ownBlock)(l:∀k,D k->D' k)(n:∀k,v'.ownBlock=some k->D' k):CR w' D' v' (cs++cs3):=by refine⟨vs++vs3,by simp[a,e],Zil,n,λi u c b f=>?_⟩;by_cases m:i<cs.length;rw[dx aA]at b;rw[dx m]at f;exact((g i u c b f).grown h j).mono l;rw[cB aA]at b;rw[cB aA]at f;rw[a]at b;exact((d _ u c b f).grown h j).mono l
structure rq(w:World)(v:Value)(cs:List (List (List Ed)))(wr:World):Prop where
 ext:eX w wr
 row:CR wr (fun k=>w.heap.size<=k) v cs
theorem jA0{wr:ao}(h:eX w wr):rq w (ae) [] wr:=⟨h,CR.nil _ _⟩
theorem jO4(o:Y2 (.mk kx wx vx px))(m:Y2 (.mk ky wy vy py))(h:(cf kx wx vx).toList=(cf ky wy vy).toList):px=[]\/(kx=3/\ky=3/\wx=wy/\px≠[]):=by cases o with|num _ _=>(exact .inl rfl)|app l q p=>by_cases c:px=[];exact .inl c;right;cases m with|num j g=>(exfalso;have b:(cf 3 wx 0).toList=wx.toList:=ox;have a:(cf 4 ay vy).toList=itoa vy:=ZiF;rw[b,a]at h;obtain⟨_,_,_,e,d,_⟩:=zk l;obtain⟨_,_,k,hd,_⟩:=Gq j g;rw[e,k]at h;injection h with h3 _;rw[h3,hd]at d;exact absurd d aE)|app f n i=>have b:(cf 3 wx 0)=wx:=ox;have a:(cf 3 wy 0)=wy:=ox;rw[b,a]at h;exact⟨rfl,rfl,Cv h,c⟩
noncomputable def mj(T:List Nd)(i k:Nat)(ps qs:List Nd)(m:Nat):List (List Ed):=lT T i k (ps.take m) (qs.take m)
theorem jk3(T:List Nd)(i k:Nat)(ps qs:List Nd):mj T i k ps qs 0=[[⟨i,k,0⟩,⟨k,i,0⟩]]:=by simp[mj,lT]
theorem jk4{i m:Nat}{ps qs:List Nd}{p q:Nd}(a:ps[m]?=some p)(b:qs[m]?=some q):mj T i k ps qs (m+1)=mj T i k ps qs m++[[⟨idx T p,idx T q,-1⟩],[⟨idx T q,idx T p,-1⟩]]:=by have c:=(aX.1 a).1;have d:=(aX.1 b).1;unfold mj lT;rw[H8 a,H8 b,List.zip_append aM,BO];simp
theorem jA1(T:List Nd)(i k:Nat)(ps qs:List Nd)(h:ps.length=qs.length):mj T i k ps qs ps.length=lT T i k ps qs:=by unfold mj;rw[cj (aW _),cj aA]
theorem Zg(T:List Nd)(i k:Nat)(ps qs:List Nd)(m:Nat):(mj T i k ps qs m).length<=1+2*m:=by unfold mj lT;have b:∀l:List (Nd×Nd),(l.flatMap (λp=>[[(⟨idx T p.1,idx T p.2,-1⟩:Ed)],[⟨idx T p.2,idx T p.1,-1⟩]])).length=2*l.length:=Zg6;simp only[nE,b,List.length_zip,dd];omega
theorem jk5:(prog.info? 243).map (λi=>(i.zero,i.size,i.bytes))=some (some (ae),1,24):=aG
theorem OX:(prog.info? 334).map (λi=>(i.zero,i.size,i.bytes))=some (some (.agg #[ae]),1,24):=aG
theorem Zh(a:T[k]?=some y):jc T j x 0 (T.take (k+1))=jc T j x 0 (T.take k)++lh T j k x y:=by have b:=(aX.1 a).1;rw[H8 a,VW,dd,oy,show min k T.length=k by omega]
theorem jA2(a:T[j]?=some x):eD T (j+1)=eD T j++jc T j x 0 (T.take j):=by simp only[eD,a]
theorem jY4(h:¬(kx=3/\ky=3/\wx=wy/\px≠[])):lh T j k (.mk kx wx vx px) (.mk ky wy vy py)=[]:=by simp only[lh];rw[aF h]
theorem jO5(h:px≠[]):lh T j k (.mk 3 wx vx px) (.mk 3 wx vy py)=[lT T j k px py]:=by simp[lh,h]
theorem OY(T:List Nd)(i:Nat)(x:Nd):∀(ys:List Nd)(k:Nat),(jc T i x k ys).length<=ys.length|[],k=>by{simp[jc]}|.mk ky wy vy py::ys,k=>by have:=OY T i x ys (k+1);cases x with|mk kx wx vx px=>simp only[jc,lh,bK];split<;>simp<;>omega
theorem Iv(T:List Nd):∀n:Nat,n<=12->(eD T n).length<=12*n|0,_=>by{simp[eD]}|n+1,h=>by have:=Iv T n aA;simp only[eD,bK];split;rename_i x _;have a:=OY T n x (T.take n) 0;have:(T.take n).length<=n:=aM;omega;exact aM
def Zi(wb:Nat)(D:aj)(T:List Nd):Prop:=∀ (w:ao) (tv nv:au),w.cell? (aD wb 0)=some tv->w.cell? (aD wb 1)=some nv->wb<w.heap.size->FR w tv T->NR w D nv T ->
 cP 167 #[pT wb] w fun e w'=>∃ v,e=.returned v/\rq w v (eD T T.length) w'
open Classical in
noncomputable def s8(T A L:List Nd)(bs:List Bool):Bool:=decide (Pt T A L bs)
open Classical in
theorem Zj(h:Pt T A L bs):s8 T A L bs=true:=fS h
open Classical in
theorem DN(h:¬Pt T A L bs):s8 T A L bs=false:=gj h
open Classical in
theorem jY6(h:Pt T A L bs↔uQ l cs):s8 T A L bs=mB l cs:=by unfold s8 mB;rw[decide_eq_decide];exact h
theorem OZ(j:dN x)(he:∀p∈(J6 x).take 2,p∈T):gN (T.length+1) (mQ T x b)/\(mQ T x b).length<=2:=by
 have d:∀p∈T,idx T p<T.length+1:=Zbt;have f:∀(a c:Nat)(w:List UInt8)(n:Int),a<T.length+1->c<T.length+1-> -1000<=n->n<=1000->gN (T.length+1) (lR a c w n b)/\(lR a c w n b).length<=2:=by intro a c w n h _ h1 g;unfold lR;split;split;refine⟨λe he=>?_,aC⟩;exact ZhR;exact⟨λe he=>by simp at he,aC⟩;split;exact Zk0;exact Zk0
 cases j with|two i h hb=>(exact f _ _ _ _ (d _ (he _ jm)) (d _ (he _ jm)) (by simp[dm]) (by simp[dm]))|le i h hb h1 g=>exact f _ _ _ _ (d _ (he _ jm)) (d _ (he _ jm)) (by simpa[dm]using h1) (by simpa[dm]using g)
theorem O1(j:dN x)(he:∀p∈(J6 x).take 2,p∈T):(nV T x b).length<=1/\∀c∈nV T x b,c.length<=20/\∀f∈c,gN (T.length+1) f/\f.length<=2:=by
 have g:∀p∈T,idx T p<T.length+1:=Zbt;have h:∀(a c:Nat)(w:List UInt8),a<T.length+1->c<T.length+1->(lS a c w b).length<=1/\∀d∈lS a c w b,d.length<=20/\∀f∈d,gN (T.length+1) f/\f.length<=2:=by intro a c w i _;unfold lS;split;split;simp;refine⟨aC,λd hd=>?_⟩;simp at hd;subst hd;refine⟨aC,λf hw=>?_⟩;exact ZjX;simp
 cases j with|two hw i hb=>(exact h _ _ _ (g _ (he _ jm)) (g _ (he _ jm)))|le hw i hb h1 k=>exact h _ _ _ (g _ (he _ jm)) (g _ (he _ jm))
theorem jY7{T:List Nd}(eM:∀y∈T,Y2 y):gN (T.length+1) (dG T.length 0 T):=by
 have h:∀(xs:List Nd)(i:Nat),(∀y∈xs,Y2 y)->i+xs.length<=T.length->gN (T.length+1) (dG T.length i xs):=by intro xs;induction xs with|nil=>(intro i _ _ e he;simp[dG]at he)|cons x xs ih=>intro i hx hi e he;simp at hi;simp only[dG,List.mem_append]at he;rcases he with he|he;{have:=hx x aC;cases this with|num h1 h2=>(simp[lQ]at he;rcases he with rfl|rfl<;>simp<;>omega)|app _ _ _=>simp[lQ]at he};exact ih (i+1) (λy hy=>hx y E4) aA e he
 exact h T 0 eM aA
theorem jA8(h:fK T A L)(m:T.length<=12)(n:A.length<=16)(bs:List Bool):gN (T.length+1) (fD T (A.zip bs))/\(fD T (A.zip bs)).length<=56:=by
 have o:(A.zip bs).length<=16:=aM;have hd:=h.G5 bs;refine⟨λe a=>?_,?_⟩;unfold fD at a;rcases ct.1 a with a|a;exact jY7 h.tok e a;obtain⟨d,f,a⟩:=tQ.1 a;exact(OZ (hd d f).1 (hd d f).2).1 e a;have g:∀l:List (Nd×Bool),(∀d∈l,dN d.1/\∀p∈(J6 d.1).take 2,p∈T)->(l.flatMap (λd=>mQ T d.1 d.2)).length<=2*l.length:=by intro l;induction l with|nil=>(simp)|cons d l i=>intro c;have k:=(OZ (b:=d.2) (c d aC).1 (c d aC).2).2;have j:=i (λe a=>c e (by simp[a]));simp only[List.flatMap_cons,List.length_append,List.length_cons];omega
 have k:=g _ hd;have j:=OU T.length T 0;unfold fD;exact Zct
theorem Zc9(j:∀x∈T,∀p∈J6 x,p∈T)(m:∀y∈T,Y2 y):∀c∈eD T T.length,c.length<=20/\∀d∈c,gN (T.length+1) d/\d.length<=2:=by have h:∀p∈T,idx T p<T.length+1:=Zbt;intro c f;obtain⟨i,k,x,y,_,_,s,r,f⟩:=CI.1 f;have mx:=bg s;have o:=bg r;cases x with|mk kx wx vx px=>cases y with|mk ky wy vy py=>simp only[lh]at f;split at f;rw[rW]at f;subst f;have u:px.length<=3:=by{cases m _ mx<;>simp_all};refine⟨?_,λd hw=>?_⟩;have:=Zg T i k px py px.length;unfold mj at this;rw[cj (aW _)]at this;have q:∀l:List (Nd×Nd),(l.flatMap (λp=>[[(⟨idx T p.1,idx T p.2,-1⟩:Ed)],[⟨idx T p.2,idx T p.1,-1⟩]])).length=2*l.length:=Zg6;unfold lT;simp only[nE,q,List.length_zip];omega;unfold lT at hw;rcases oz.1 hw with rfl|hw;exact⟨λe he=>ZhR,aC⟩;obtain⟨g,n,hw⟩:=tQ.1 hw;have hp:=h _ (j _ mx g.1 (List.of_mem_zip (a:=g.1) (b:=g.2) n).1);have t:=h _ (j _ o g.2 (List.of_mem_zip (a:=g.1) (b:=g.2) n).2);exact ZjX;simp at f
theorem Zk(h:fK T A L)(n:T.length<=12)(s:A.length<=16)(bs:List Bool):YH (T.length+1) (fW T (A.zip bs)++eD T T.length)/\(fW T (A.zip bs)).length<=16:=by
 have t:(A.zip bs).length<=16:=aM;have hd:=h.G5 bs;have o:∀l:List (Nd×Bool),(∀d∈l,dN d.1/\∀p∈(J6 d.1).take 2,p∈T)->(l.flatMap (λd=>nV T d.1 d.2)).length<=l.length:=by intro l;induction l with|nil=>(simp)|cons d l q=>intro i;have j:=(O1 (b:=d.2) (i d aC).1 (i d aC).2).1;have m:=q (λe r=>i e (by simp[r]));simp only[List.flatMap_cons,List.length_append,List.length_cons];omega
 have j:(fW T (A.zip bs)).length<=16:=by have:=o _ hd;unfold fW;omega
 have m:=Iv T T.length n;have k:∀c∈fW T (A.zip bs)++eD T T.length,c.length<=20/\∀g∈c,gN (T.length+1) g/\g.length<=2:=by intro c a;rcases ct.1 a with a|a;obtain⟨d,f,a⟩:=tQ.1 a;exact(O1 (hd d f).1 (hd d f).2).2 c a;exact Zc9 h.Nk h.tok c a
 exact⟨⟨Zct,λc a=>(k c a).1,λc a=>(k c a).2⟩,j⟩
theorem Iw(n:Nat)(bs:List Bool)(h:bs.length<=n):(O7 n bs).length=n:=by simp[O7];omega
theorem Zl(b:Bool)(h:bs.length<n):(O7 n bs).set bs.length (if b then 1 else 2)=O7 n (bs++[b]):=by unfold O7;rw[yP _ _ aC];obtain⟨k,a⟩:∃k,n-bs.length=k+1:=⟨n-bs.length-1,aA⟩;rw[a];simp[List.replicate_succ];rw[show n-(bs.length+1)=k by omega]
theorem O2(b:Bool)(h:bs.length<n):(O7 n (bs++[b])).set bs.length 0=O7 n bs:=by rw[<-Zl b h,List.set_set];unfold O7;rw[yP _ _ aC];obtain⟨k,a⟩:∃k,n-bs.length=k+1:=⟨n-bs.length-1,aA⟩;rw[a];simp[List.replicate_succ]
section
variable{w w':ao}{wb:Nat}{D:aj}{lv:au}{x:Fin 5->au}{T A:List Nd}{st:List Int}
def DO(x:Fin 5->au)(k:Nat):Prop:=(x 4).ownBlock=some k
theorem WW.Ix{a:Nat}(h:WW w wb D lv x (GR D T T A A st))(l:x 4=az a st.length cap)(i:Nat)(v:Int):WW (w.setCell (aD a i) (iI v)) wb D lv x (GR D T T A A (st.set i v))/\q9 (DO x) w (w.setCell (aD a i) (iI v)):=by
 have c:(x 4).ownBlock=some a:=by rw[l];rfl
 have f:q9 (λk=>k=a) w (w.setCell (aD a i) (iI v)):=(q9.refl (λk=>k=a) w).sc a i _;have m:w.ownsRow 0 3 1 (x 4) st.length (st.map (λn=>iI n)):=h.row 4;rw[l]at m;have p:=(m.stored i (iI v)).1;have b:∀j:Fin 5,¬j=4->∀k,(x j).ownBlock=some k->¬k=a:=λj o k g e=>h.sep j 4 k o g (e▸c);have d:=OG D T T A A st;refine⟨⟨(f.block wb (j9 h.aL) (λe=>(h.fY 4 a c).1 e.symm)).trans h.aL,?_,OG D T T A A _,λj k g=>bD (h.lt j k g) f.size,h.sep,h.fY,λk g=>bD (h.iJ k g) f.size,h.vu⟩,f.mono (λk _ e=>by rw[e];exact c)⟩;intro j;have hd:∀k,k<w.heap.size->D k->¬k=a:=λk _ g e=>(h.fY 4 a c).2 (e▸g);match j with|0=>{exact d 0 _ w _ (x 0) (h.row 0) f (b 0 aE) hd}|1=>{exact d 1 _ w _ (x 1) (h.row 1) f (b 1 aE) hd}|2=>{exact d 2 _ w _ (x 2) (h.row 2) f (b 2 aE) hd}|3=>{exact d 3 _ w _ (x 3) (h.row 3) f (b 3 aE) hd}|4=>show World.ownsRow _ _ _ _ _ _ _;rw[l,List.length_set,List.map_set];exact p
theorem ER.Ao(h:ER w v l)(b:w.ownsRow 0 3 1 sv n xs)(c:q9 (λk=>sv.ownBlock=some k) w w'):ER w' v l:=h.ext c (λ_ a e=>vD h b aE a e)
theorem dX.Ao(h:dX w E v c)(a:w.ownsRow 0 3 1 sv n xs)(j:q9 (λk=>sv.ownBlock=some k) w w'):dX w' E v c:=by obtain⟨vs,o,d,p,f⟩:=h;exact⟨vs,o,j8 d j (λ_ m e=>vD d a aE m e),p,λi u l g b=>⟨(f i u l g b).1.Ao a j,(f i u l g b).2⟩⟩
theorem CR.Ao(h:CR w E v cs)(a:w.ownsRow 0 3 1 sv n xs)(d:q9 (λk=>sv.ownBlock=some k) w w'):CR w' E v cs:=by obtain⟨vs,j,b,m,g⟩:=h;exact⟨vs,j,j8 b d (λ_ f e=>vD b a aE f e),m,λi u c l o=>(g i u c l o).Ao a d⟩
theorem qR6{b:Nat}(d:Bool)(i:w.cell? (aD wb 0)=some tv)(h:FR w tv T)(j:T.Nodup)(a:∀y∈T,Y2 y)(g:T.length<=1000)(k:dN y)(hb:RN w D b y)(c:∀p∈(J6 y).take 2,p∈T):cP 169 #[pT wb,pT b,.bool d] w (YD w T y d):=by cases k with|two e l f=>(exact YE d i h j a g hb (c _ jm) (c _ jm) (.inl rfl) (by simp[dm]) (.inl e))|le e l f n m=>exact YE d i h j a g hb (c _ jm) (c _ jm) (.inr ⟨_,_,rfl⟩) (by simp[dm];omega) (.inr e)
end
def jY8(w:ao)(wb:Nat)(D:aj)(lv:au)(x:Fin 5->au)(T A L:List Nd)(bs:List Bool)(e:Ending)(w':ao):Prop :=
 e=.returned (.bool (s8 T A L bs))/\q9 (DO x) w w'/\(s8 T A L bs=false->WW w' wb D lv x (GR D T T A A (O7 A.length bs)))
theorem CR.Iy(f:vs.length=cs.length)(b:∀(i:Nat)(u:au)(c:List (List Ed)),vs[i]?=some u->cs[i]?=some c->dX w E u c):∀u∈vs,u.oneCell'=true:=by intro u d;obtain⟨i,hi,e⟩:=BC d;obtain⟨l,a⟩:∃l,cs[i]?=some l:=⟨_,aU aA⟩;obtain⟨_,_,rfl,_⟩:=(b i u l ZhI a).shape;rfl
theorem Iz{w0:ao}(p:eX w0 w)(r:w.ownsRow 0 334 1 v cs.length vs)(g:vs.length=cs.length)(l:∀(i:Nat)(u:au)(c:List (List Ed)),vs[i]?=some u->cs[i]?=some c->dX w E u c)(a:∀k,v.ownBlock=some k->w0.heap.size<=k)(f:vs3.length=cs3.length)(d:∀(i:Nat)(u:au)(c:List (List Ed)),vs3[i]?=some u->cs3[i]?=some c->dX w E u c)(b:w'.ownsRow 0 334 1 v' (cs.length+cs3.length) (vs++vs3))(o:w.grownBy w' v.ownBlock)(j:v'.ownBlock=v.ownBlock\/v'.ownBlock=some w.heap.size):eX w0 w'/\CR w' (λk=>E k\/w0.heap.size<=k) v' (cs++cs3)/\∀k,v'.ownBlock=some k->w0.heap.size<=k:=by
 have s:=p.size;have q:∀k,v'.ownBlock=some k->w0.heap.size<=k:=by intro k hk;rcases j with e|e;exact a k (e▸hk);rw[e]at hk;exact E5
 exact⟨p.grown o (λk hk _=>by have:=a k hk;omega),CR.app (D:=λk=>E k\/w0.heap.size<=k) r g (λi u c m n=>(l i u c m n).mono (λ_ h=>.inl h)) f (λi u c m n=>(d i u c m n).mono (λ_ h=>.inl h)) b o (λ_ h=>h) (λk hk=>.inr (q k hk)),q⟩
theorem jA9{α:Type}{p:α->Bool}{l:List α}{q:Nat}{f:α}(h:l[q]?=some f):(l.take (q+1)).any p=((l.take q).any p||p f):=by rw[H8 h,List.any_append];simp
theorem jk6{g:Nat}(h:w.ownsRow 0 e size (az g n cap) n xs):∀j,j<n*size->(w.cell? (aD g j)).isSome=true/\w.frozen? (aD g j)=false:=ZfE
theorem CR.ZdP{r:au}(h:CR w E v cs)(o:w.ownsRow 0 e size r n xs)(y:¬334=e)(s:¬243=e)(B:∀u l,ER w u l->(∀k,u.ownBlock=some k->E k)->∀k,u.ownBlock=some k->¬r.ownBlock=some k)(g:q9 (λk=>r.ownBlock=some k) w w'):CR w' E v cs:=by obtain⟨vs,q,p,x,C⟩:=h;refine⟨vs,q,j8 p g (λ_ f e=>vD p o y f e),x,λi u c a D=>?_⟩;obtain⟨z,A,m,t,d⟩:=C i u c a D;exact⟨z,A,j8 m g (λ_ f e=>vD m o s f e),t,λj u l a b=>⟨(d j u l a b).1.ext g (B u l (d j u l a b).1 (d j u l a b).2),(d j u l a b).2⟩⟩
theorem CR.within(h:CR w E v cs):CR w (λk=>k<w.heap.size) v cs:=by obtain⟨vs,o,d,_,n⟩:=h;refine⟨vs,o,d,λk a=>(d.lt k a).2,λi u c b q=>?_⟩;obtain⟨p,m,f,_,g⟩:=n i u c b q;exact⟨p,m,f,λk a=>(f.lt k a).2,λj u l b e=>⟨(g j u l b e).1,λk a=>(World.ownsRow.lt (g j u l b e).1 k a).2⟩⟩
section
variable{wb:Nat}{D:aj}{lv:au}{T A L:List Nd}
theorem Zd0{w:World}{x:Fin 5->Value}{bs:List Bool}(hg:fK T A L)(hA:A.length<=16)(nk:bs.length<=A.length)(h:WW w wb D lv x (GR D T T A A (O7 A.length bs))):TH w wb A bs where
 a:=⟨x 2,by rw[z7 h.aL 2];rfl,h.row 2⟩
 s:=⟨x 4,by rw[z7 h.aL 4];rfl,by
  have h4:w.ownsRow 0 3 1 (x 4) (O7 A.length bs).length ((O7 A.length bs).map (fun n=>iI n)):=h.row 4
  rw[Iw _ _ nk] at h4
  exact h4⟩
 an:=hg.an
 ok:=hg.Nj
 bL:=hA
theorem jk7(c:fK T A L)(d:∀f∈L,aT (sg A bs) f≠2)(h:L.any (λf=>aT (sg A bs) f==0)=false\/bs.length=A.length):∀f∈L,aT (sg A bs) f=1:=by
 intro f a;have b:=d f a;rcases h with h|h;have g:¬aT (sg A bs) f=0:=by intro e;have:L.any (λf=>aT (sg A bs) f==0)=true:=List.any_eq_true.2 ⟨f,a,by simp[e]⟩;rw[h]at this;exact SY
 rcases V3 c (bs:=bs) a with e|e|e;exact absurd e g;exact e;exact absurd e b;rcases jC1 c h a with e|e;exact e;exact absurd e b
theorem jk8(hg:fK T A L)(hT:T.length<=12)(hA:A.length<=16)(zz:∀ f∈L,(Z0 f).length<=1000000)(hLl:L.length<=100)(xJ:Zi wb D T)(n:Nat):∀ (w:World) (x:Fin 5->Value) (bs:List Bool) (ev cv:Value) (E:Nat->Prop),A.length-bs.length<n->bs.length<=A.length->WW w wb D lv x (GR D T T A A (O7 A.length bs))->NR w D lv L->(∀ k,lv.ownBlock=some k->D k)->ER w ev (fD T (A.zip bs))->CR w E cv (fW T (A.zip bs))->(∀ k,E k->k<w.heap.size) ->
  cP 122 #[pT wb,iI bs.length,ev,cv] w (jY8 w wb D lv x T A L bs):=by
 induction n with
 | zero=>intro w x bs ev cv E h;omega
 | succ n ih=>
  intro w x bs ev cv E hn nk hW hL Zm hE hC Zn
  obtain⟨ea,ec,Zo,_⟩:=hE.shape
  obtain⟨en,O'⟩:∃ en,(fD T (A.zip bs)).length=en:=⟨_,rfl⟩
  obtain⟨ca,cc,Zp,_⟩:=hC.shape
  obtain⟨cn,Pa⟩:∃ cn,(fW T (A.zip bs)).length=cn:=⟨_,rfl⟩
  rw[O'] at Zo
  rw[Pa] at Zp
  subst Zo Zp
  obtain⟨la,lc,Pb,Zq⟩:=hL.shape
  have Zr:=Zd0 hg hA nk hW
  have q5:w.cell? (aD wb 5)=some (.slice la L.length lc):=by rw[z7 hW.aL 5,<- Pb];rfl
  have Zs:=jA8 hg hT hA bs
  have s6:=j9 hW.aL
  have HTR:Hid (∀ f∈L,∀ b,RN w D b f->∀ m,cP 165 #[pT wb,pT b] (w.drewN m) (vC (w.drewN m) (aT (sg A bs) f))):=fun f hf b hb m=>jk1 nk (hg.ok f hf) (zz f hf) _ b (Zr.drewN m) (hb.ext ((eR w).drewN m) (fun _ _ _ f=>f)) (fun y hy=>(hg.am y).2 ⟨f,hf,hy⟩)
  obtain⟨HG,HW,HL,dv,HE,HC,HEL,HLR⟩:=cT hg hW hL Zm hE hC Zn Zq
  obtain⟨fk,HN,Ap,mm,DP,zV,Q5,DQ⟩:=cT ih hn O' Pa Zs xJ q5 Pb
  clear hW hL Zm hE hC Zn Zq ih hn O' Pa Zs xJ Zr hg zz Pb
  delta cP
  go_in
  go_wp2_with fail
  go_loopw [9,10] (fun op i wr=>∃ q m:Nat,q<=L.length/\i=iI q/\op=.bool ((L.take q).any (fun f=>aT (sg A bs) f==0))/\wr=w.drewN m/\∀ f∈L.take q,aT (sg A bs) f≠2) (fun _ i _=>L.length-(intOf i).toNat)
  case atStart=>exact⟨0,0,Nat.zero_le _,rfl,by simp,rfl,by simp⟩
  case round=>
   obtain⟨q,m,hq,rfl,rfl,rfl,h2⟩:=hrel
   have H2:=q8 h2
   obtain⟨ob,jd⟩:∃ ob,(L.take q).any (fun f=>aT (sg A bs) f==0)=ob:=⟨_,rfl⟩
   rw[jd]
   have oe:=q8 jd
   clear h2 jd
   by_cases aZ:q<L.length
   ·obtain⟨f,hf⟩:∃ f,L[q]?=some f:=⟨_,List.getElem?_eq_getElem aZ⟩
    obtain⟨g,b,rfl,ds,hc,hb⟩:=HLR.o q f hf
    have IA:=List.mem_of_getElem? hf
    have kL:=q8 (HTR.o f IA b hb m)
    have h3:=V3 HG.o (bs:=bs) IA
    obtain⟨Pc,HF,HFM⟩:=aQ (jA9 (p:=fun f=>aT (sg A bs) f==0) hf) hf IA
    obtain⟨t,ht⟩:∃ t,aT (sg A bs) f=t:=⟨_,rfl⟩
    rw[ht] at kL h3
    rw[oe.o,ht] at Pc
    have sV:=q8 ht
    clear hf hb IA ht
    rcases h3 with rfl|rfl|rfl
    ·cases ob
     all_goals
      go_wp2_with (go_at_call 165;refine kL.o.mono ?_;rintro e w1 ⟨rfl,m1,rfl⟩)
      go_roundw
      case measure=>simp[intOf];omega
      case rel=>
       refine⟨q+1,m+m1,by omega,by go_num,by rw[Pc.o];rfl,by first|rfl|exact World.drewN_drewN _ _ _,fun y hy=>?_⟩
       rw[H8 HF.o,List.mem_append] at hy
       rcases hy with hy|hy
       ·exact H2.o y hy
       ·simp at hy;subst hy;rw[sV.o];decide
    ·cases ob
     all_goals
      go_wp2_with (go_at_call 165;refine kL.o.mono ?_;rintro e w1 ⟨rfl,m1,rfl⟩)
      go_roundw
      case measure=>simp[intOf];omega
      case rel=>
       refine⟨q+1,m+m1,by omega,by go_num,by rw[Pc.o];rfl,by first|rfl|exact World.drewN_drewN _ _ _,fun y hy=>?_⟩
       rw[H8 HF.o,List.mem_append] at hy
       rcases hy with hy|hy
       ·exact H2.o y hy
       ·simp at hy;subst hy;rw[sV.o];decide
    ·go_wp2_with (go_at_call 165;refine kL.o.mono ?_;rintro e w1 ⟨rfl,m1,rfl⟩)
     go_ret
     have dt:=DN (jC0 HG.o HFM.o sV.o)
     refine⟨by rw[dt];rfl,?_,fun _=>?_⟩
     ·first|exact(rr w).drewN _|exact((rr w).drewN _).drewN _
     ·exact HW.o.ext (S:=fun _=>False) (by first|exact(rr w).drewN _|exact((rr w).drewN _).drewN _) (fun _ _ f=>f) (fun _ _ f=>f)
   ·have Zt:L.take q=L:=List.take_of_length_le (by omega)
    have Pd:=H2.o
    have Pe:=oe.o
    rw[Zt] at Pd Pe
    obtain⟨ta,tc,et,_⟩:=FR.shape (HW.o.row 0:FR w (x 0) T)
    obtain⟨aa,ac,Zu,_⟩:=FR.shape (HW.o.row 2:FR w (x 2) A)
    have c0:w.cell? (aD wb 0)=some (.slice ta T.length tc):=by rw[z7 HW.o.aL 0,<- et];rfl
    have c2:w.cell? (aD wb 2)=some (.slice aa A.length ac):=by rw[z7 HW.o.aL 2,<- Zu];rfl
    have hM:=YA (w:=w.drewN m) (wb:=wb) c0 (HE.o.ext ((eR w).drewN m) (fun _ _ f=>f)) DP.o.1 (by have:=DP.o.2;omega) hT
    obtain⟨HM,H2L,ZdQ,C0,C2,HET⟩:=eI hM Pd Pe c0 c2 et
    clear hM Pd Pe Zt et Zu H2 oe
    go_wp2_with fail
    refine HM.o.mono ?_
    rintro e w2 ⟨dD,⟨dt,rfl⟩|⟨v,gm,Im,xQ,rfl,CY,qi⟩⟩
    ·have bm:eX w w2:=((rr w).drewN m).trans dD
     obtain⟨cR,xK⟩:=aH bm dt
     clear dD dt bm
     go_wp2_with fail
     go_ret
     have dt:=DN (fun h=>xK.o (jZ2 HG.o h))
     exact⟨by rw[dt];rfl,cR.o.M,fun _=>HW.o.ext cR.o (fun _ _ f=>f) (fun _ _ f=>f)⟩
    ·have bm:eX w w2:=((rr w).drewN m).trans dD
     have cR:=q8 bm
     have d2:=(bm.cell (p:=(aD wb 2)) s6 id).trans c2
     have d0:=(bm.cell (p:=(aD wb 0)) s6 id).trans c0
     have sF:=q8 (HW.o.ext bm (fun _ _ f=>f) (fun _ _ f=>f))
     have Zkn:cn<=16:=by have:=(Zk HG.o hT hA bs).2;have:=mm.o;omega
     clear dD bm Im xQ CY qi
     by_cases Aq:ob=false\/bs.length=A.length
     ·have uK:=jk7 HG.o H2L.o (Aq.imp (fun e=>by rw[ZdQ.o];exact e) id)
      have qj:=jP2 HG.o uK
      have s9:=q8 qj
      obtain⟨IB,jA,x',hcD,DR⟩:=HC.o.ext cR.o (fun _ _ f=>f)
      obtain⟨ir,DS⟩:=aH jA DR
      rw[mm.o] at x'
      have Pf:=q8 x'
      have Zko:=Iv T T.length hT
      have ZdR:ob=false\/(ob=true/\((bs.length:Int)==(A.length:Int))=true):=by
       cases ob
       ·exact .inl rfl
       ·exact .inr ⟨rfl,by rcases Aq with h|h;exact absurd h (by decide);simp[h]⟩
      obtain⟨l0,li,ng,nh,ni⟩:=info_parts OX
      have HLI:Hid (prog.info? 334=some l0/\l0.zero=some (.agg #[ae])/\l0.size=1/\l0.bytes=24):=⟨li,ng,nh,ni⟩
      clear uK qj jA DR x' hcD Aq
      rcases ZdR with rfl|⟨rfl,hbe⟩
      all_goals
       go_wp2_with (at_builtin;refine vt rfl _ _ 292 rfl 334 l0 (.agg #[ae]) 1 24 underlying292 li ng nh ni rfl (by decide) (ae) 0 [] rfl (World.ownsRow_nil _ _ _ _) _ _ _ rfl Pf.o (CR.Iy ir.o DS.o) ?c3 ?c4 ?_)
       case c3=>unfold maxLen;omega
       case c4=>omega
       intro v1 wa Zv Dv Dw
       have IC:wa.ownsRow 0 334 1 v1 (([]:List (List (List Ed))).length+(fW T (A.zip bs)).length) ([]++IB):=by rw[mm.o];simpa using Zv
       obtain⟨iW,Zw,Zx⟩:=Iz (w0:=w2) (E:=E) (cs:=[]) (rr w2) (World.ownsRow_nil _ _ _ _) rfl (fun i u c hu=>by simp at hu) (fun k=>sW k _) ir.o DS.o IC Dv Dw
       rw[List.nil_append] at Zw
       obtain⟨a1,DI,e1⟩:=vz IC
       have ho1:wa.ownsRow 0 334 1 v1 cn IB:=by simpa[mm.o] using IC
       rw[show([]:List (List (List Ed))).length+(fW T (A.zip bs)).length=cn by rw[mm.o];simp] at e1
       subst e1
       obtain⟨vs1,uK,Zy,_,Zz⟩:=Zw
       have DT:=sF.o.ext iW (fun _ _ f=>f) (fun _ _ f=>f)
       have ZA:=(iW.cell (p:=(aD wb 0)) (Nat.lt_of_lt_of_le s6 cR.o.size) id).trans d0
       obtain⟨HF,iD,ZdS,jL,ZdT,ZdU⟩:=eI (zV.o wa (.slice ta T.length tc) (x 1) ZA (by rw[z7 DT.aL 1];rfl) (j9 DT.aL) (by rw[<- HET.o];exact DT.row 0) (DT.row 1)) iW uK Zy Zz Zx
       clear Zv IC Dv Dw iW uK ho1 Zy Zz Zx DT ZA li ng nh ni
       go_wp2_with fail
       refine HF.o.mono ?_
       rintro e w4 ⟨v4,rfl,DU⟩
       obtain⟨a4,xW,e4,_⟩:=DU.row.shape
       obtain⟨nf,Dg⟩:∃ nf,(eD T T.length).length=nf:=⟨_,rfl⟩
       rw[Dg] at e4
       subst e4
       obtain⟨vs4,sx,Ph,_,ZB⟩:=DU.row
       rw[Dg] at Ph
       have ZC:w4.ownsRow 0 334 1 (.slice a1 cn DI) cn vs1:=by
        have:=j8 jL.o DU.ext (fun _ _ f=>f)
        rw[mm.o] at this
        exact this
       have Zkp:nf<=144:=by omega
       obtain⟨ZD,ID,GC,DF,ZE,ZF⟩:=eI DU.ext Dg sx Ph ZB ZC
       clear DU Dg sx Ph ZB ZC
       obtain⟨li,ng,nh,ni⟩:=HLI.o
       go_wp2_with (at_builtin;refine vt rfl _ _ 292 rfl 334 l0 (.agg #[ae]) 1 24 underlying292 li ng nh ni rfl (by decide) _ _ _ rfl ZF.o _ _ _ rfl DF.o (CR.Iy GC.o ZE.o) ?c3 ?c4 ?_)
       case c3=>unfold maxLen;omega
       case c4=>omega
       intro v5 w5 s7 Pj ph
       have gu:=iD.o.size
       obtain⟨pj,ZG,_⟩:=Iz (w0:=w2) (w:=w4) (E:=fun k=>E k\/w2.heap.size<=k) (cs:=fW T (A.zip bs)) (cs3:=eD T T.length) (iD.o.trans ZD.o) (by rw[mm.o];exact ZF.o) ZdS.o (fun i u c hu hc=>(ZdT.o i u c hu hc).ext ZD.o (fun _ _ f=>f)) ZdU.o GC.o (fun i u c hu hc=>(ZE.o i u c hu hc).mono (fun k hk=>.inr (by omega))) (by rw[mm.o,ID.o];exact s7) Pj ph
       obtain⟨a5,IE,e5⟩:=vz s7
       subst e5
       have DV:=cR.o.trans pj
       have Au:=qQ9 (D:=fun k=>k<w5.heap.size) hT (Zk HG.o hT hA bs).1 (zF (fD T (A.zip bs)) (fW T (A.zip bs)++eD T T.length)+1) w5 (.slice ea en ec) (.slice a5 (cn+nf) IE) (fD T (A.zip bs)) (Nat.lt_succ_self _) ((DV.cell (p:=(aD wb 0)) s6 id).trans C0.o) (Nat.lt_of_lt_of_le s6 DV.size) (HE.o.ext DV (fun _ _ f=>f)) DP.o.1 (by
        have h1:=jO1 (fD T (A.zip bs)) (fW T (A.zip bs)++eD T T.length)
        rw[List.length_append] at h1
        have h2:=DP.o.2
        have h3:=mm.o
        have h4:=ID.o
        omega) ZG.within (fun _ h=>h)
       obtain⟨kL,ZdV⟩:=aH Au DV
       clear s7 Pj ph pj ZG Au DV li ng nh ni
       go_wp2_with fail
       refine kL.o.mono ?_
       rintro e w6 ⟨rfl,iX⟩
       have lK:=q8 iX
       clear iX
       go_wp2_with fail
       go_ret
       have uE:=jY6 s9.o
       have ZH:=ZdV.o.trans lK.o
       exact⟨by rw[uE];rfl,ZH.M,fun _=>HW.o.ext ZH (fun _ _ f=>f) (fun _ _ f=>f)⟩
     ·have jd:ob=true:=by cases ob;exact absurd (.inl rfl) Aq;rfl
      subst jd
      have oh:bs.length<A.length:=by
       have:¬bs.length=A.length:=fun e=>Aq (.inr e)
       omega
      have hbe:((bs.length:Int)==(A.length:Int))=false:=by simp;omega
      obtain⟨y,hy⟩:∃ y,A[bs.length]?=some y:=⟨_,List.getElem?_eq_getElem oh⟩
      have Pk:=List.mem_of_getElem? hy
      obtain⟨HY,Av,Pl⟩:=aQ hy (HG.o.Nj y Pk) (HG.o.VZ y Pk)
      have ya:w.ownsRow 0 3 1 (x 4) (O7 A.length bs).length ((O7 A.length bs).map (fun n=>iI n)):=HW.o.row 4
      obtain⟨ZI,Aa⟩:=aH ya (jC2 (T:=T) (L:=L) hy)
      rw[Iw _ _ nk] at ya
      obtain⟨gs,xW,ZJ,_,_⟩:=ya.form (by omega)
      have gB:=q8 ZJ
      clear Aq hy Pk ya ZJ
      go_wp2_with fail
      go_loopw [15] (fun i wr=>∃ (s:Nat) (st:List Int),1<=s/\s<=3/\i=iI s/\q9 (DO x) w wr/\WW wr wb D lv x (GR D T T A A st)/\st.length=A.length/\st.set bs.length 0=O7 A.length bs/\(2<=s->¬Pt T A L (bs++[true]))/\(3<=s->¬Pt T A L (bs++[false]))) (fun i _=>4-(intOf i).toNat)
      case atStart=>
       refine⟨1,O7 A.length bs,by omega,by omega,rfl,cR.o.M,sF.o,Iw _ _ nk,?_,by omega,by omega⟩
       conv=>lhs;rw[<- O2 true oh,List.set_set,O2 true oh]
      case round=>
       obtain⟨s,st,eu,zZ,rfl,ZK,IF,IG,ZL,np,Pm⟩:=hrel
       have k4:wr.cell? (aD wb 4)=some (.slice (sA gs) A.length xW):=by rw[z7 IF.aL 4,<- gB.o];rfl
       have oT:wr.ownsRow 0 3 1 (.slice (sA gs) A.length xW) A.length (st.map (fun n=>iI n)):=by
        have h9:wr.ownsRow 0 3 1 (x 4) st.length (st.map (fun n=>iI n)):=IF.row 4
        rw[IG,gB.o] at h9
        exact h9
       have Pn:=jk6 oT bs.length (by omega)
       obtain⟨u0,hu0⟩:=Option.isSome_iff_exists.1 Pn.1
       have hfz:=Pn.2
       have ZdW:=j9 (OV oT rfl).choose_spec
       obtain⟨Ik,yb,Zkq,ZM,Hz,zy⟩:=eI ZK IF IG ZL np Pm
       have ZN:x 4=.slice (sA gs) st.length xW:=by rw[IG];exact gB.o
       have ZO:=q8 ZN
       clear ZK IF IG ZL np Pm oT Pn ZN
       by_cases hs:s<=2
       ·obtain⟨bb,II⟩:∃ bb:Bool,(bb=true/\s=1)\/(bb=false/\s=2):=by
         by_cases h1:s=1
         ·exact⟨true,.inl ⟨rfl,h1⟩⟩
         ·exact⟨false,.inr ⟨rfl,by omega⟩⟩
        have Aw:(s:Int)=if bb then 1 else 2:=by rcases II with⟨rfl,rfl⟩|⟨rfl,rfl⟩<;>rfl
        have cC:((s:Int)==1)=bb:=by rcases II with⟨rfl,rfl⟩|⟨rfl,rfl⟩<;>rfl
        obtain⟨yc,IJ⟩:=yb.o.Ix ZO.o bs.length (s:Int)
        have ZP:st.set bs.length (s:Int)=O7 A.length (bs++[bb]):=by
         rw[Aw,<- Zl bb oh,<- ZM.o,List.set_set]
        rw[ZP] at yc
        obtain⟨W1,Po⟩:∃ W1,wr.setCell (aD gs bs.length) (iI (s:Int))=W1:=⟨_,rfl⟩
        rw[Po] at yc IJ
        obtain⟨ba,bc,eb,ZQ⟩:=NR.shape (yb.o.row 3:NR wr D (x 3) A)
        obtain⟨gb,aI,rfl,qi,hbc,ZR⟩:=ZQ bs.length y HY.o
        have k3:wr.cell? (aD wb 3)=some (.slice (sA gb) A.length bc):=by rw[z7 yb.o.aL 3,<- eb];rfl
        have Pp:(x 4).ownBlock=some gs:=by rw[gB.o];rfl
        have ZS:(x 3).ownBlock=some gb:=by rw[eb];rfl
        have ne1:¬gs=wb:=(yb.o.fY 4 gs Pp).1
        have ne2:¬gs=gb:=fun e=>yb.o.sep 4 3 gs (by decide) Pp (by rw[e];exact ZS)
        have ne3:¬wb=gs:=fun e=>ne1 e.symm
        have ne4:¬gb=gs:=fun e=>ne2 e.symm
        have GH:RN W1 D aI y:=ZR.ext IJ (fun k _ hd e=>(yb.o.fY 4 k e).2 hd)
        have DW:=Ik.o.trans IJ
        have kL:=q8 (qR6 (wb:=wb) bb (by rw[z7 yc.aL 0];rfl) (yc.row 0:FR W1 (x 0) T) HG.o.tn HG.o.tok (by omega) Av.o GH Pl.o)
        have ZT:ER W1 (.slice ea en ec) (fD T (A.zip bs)):=HE.o.Ao ZI.o DW
        have ZU:CR W1 E (.slice ca cn cc) (fW T (A.zip bs)):=HC.o.Ao ZI.o DW
        obtain⟨p8,ZV,ZdX,ZdY,ZdZ,DX,Zkr,Zks⟩:=cT yc DW ZT ZU Po II (j9 yc.aL) DW.size
        clear yc IJ ZP Po eb ZQ GH ZR DW ZT ZU II Aw ZS Pp
        go_wp2_with fail
        rw[ZdZ.o]
        refine kL.o.mono ?_
        rintro e w3 ⟨v6,u6,rfl,jZ,zf,hn6,Pq⟩
        obtain⟨e6a,e6c,ZW,_⟩:=zf.shape
        obtain⟨Ax,Ps⟩:∃ Ax,(mQ T y bb).length=Ax:=⟨_,rfl⟩
        obtain⟨u6a,u6c,ZX,_⟩:=Pq.shape
        obtain⟨IK,Pu⟩:∃ IK,(nV T y bb).length=IK:=⟨_,rfl⟩
        rw[Ps] at ZW
        rw[Pu] at ZX
        subst ZW ZX
        have Zkt:Ax<=2:=by have:=(OZ (b:=bb) Av.o Pl.o).2;omega
        have Zku:IK<=1:=by have:=(O1 (b:=bb) Av.o Pl.o).1;omega
        have Zkv:en<=56:=by have:=DP.o.2;have:=Ap.o;omega
        obtain⟨dq,Mw,HU6,ZY,ZZ,Dt,OD⟩:=jq jZ zf Pq Ps Pu (Ov (w:=W1) jZ) (ZdX.o.ext jZ (fun _ _ f=>f))
        obtain⟨i0,hi,cA,cg,cq⟩:=info_parts Ow
        clear jZ zf Pq hn6 Ps Pu k3 hbc k4 hu0 hfz
        have Z2:w3.ownsRow 0 303 3 (.slice ea en ec) en (O0 (fD T (A.zip bs))):=by
         have h9:=OD.o
         unfold ER at h9
         rw[Ap.o] at h9
         exact h9
        have Zea:=q8 Z2
        clear Z2
        go_wp2_with (at_builtin;refine vt rfl _ _ 243 rfl 303 i0 (.agg #[iI 0,iI 0,iI 0]) 3 24 underlying243 hi cA cg cq rfl (by decide) _ _ _ rfl Dt.o.row _ _ _ rfl Zea.o (Il _) ?c3 ?c4 ?_)
        case c3=>unfold maxLen;simp;omega
        case c4=>simp;omega
        intro v7 wa Iu Pv xX
        have DY:=Ds (l:=[]) (m:=fD T (A.zip bs)) Dt.o (by rw[Ap.o];simpa using Iu) Pv xX
        rw[List.nil_append] at DY
        obtain⟨a7,DJ,e7,_⟩:=DY.row.shape
        rw[Ap.o] at e7
        subst e7
        have HN7:=q8 DY
        have Zeb:Hid (∀ k,(Value.slice a7 en DJ).ownBlock=some k->k=w3.heap.size):=fun k hk=>by
         rcases xX with e|e
         ·rw[hk] at e;exact absurd e (by simp[Value.ownBlock])
         ·rw[hk] at e;simpa using e
        have iW:eX w3 wa:=(rr w3).grown Pv (fun k hk _=>absurd hk (by simp[Value.ownBlock]))
        have Z':wa.ownsRow 0 303 3 (.slice a7 en DJ) en (O0 (fD T (A.zip bs))):=by
         have h9:=DY.row
         unfold ER at h9
         rw[Ap.o] at h9
         exact h9
        have DZ:wa.ownsRow 0 303 3 (.slice e6a Ax e6c) Ax (O0 (mQ T y bb)):=by
         have h9:=Mw.o.ext iW (fun _ _ f=>f)
         unfold ER at h9
         rw[ZY.o] at h9
         exact h9
        obtain⟨Ci,zg,iD⟩:=aQ Z' DZ iW
        clear Iu Pv xX DY iW Z' DZ
        go_wp2_with (at_builtin;refine vt rfl _ _ 243 rfl 303 i0 (.agg #[iI 0,iI 0,iI 0]) 3 24 underlying243 hi cA cg cq rfl (by decide) _ _ _ rfl Ci.o _ _ _ rfl zg.o (Il _) ?c3 ?c4 ?_)
        case c3=>unfold maxLen;omega
        case c4=>omega
        intro v8 wc Pw Px DL
        have Py:=Ds HN7.o (m:=mQ T y bb) (by rw[Ap.o,ZY.o];exact Pw) Px DL
        rw[<- qS1 HY.o] at Py
        obtain⟨a8,Zec,e8⟩:=vz Pw
        subst e8
        have HN8:=q8 Py
        have Zed:∀ u l,ER wa u l->(∀ k,u.ownBlock=some k->k<w3.heap.size)->∀ k,u.ownBlock=some k->¬(Value.slice a7 en DJ).ownBlock=some k:=fun u l _ hu k hk e=>by have h1:=hu k hk;have h2:=Zeb.o k e;omega
        have HU8:=q8 (CR.ZdP (HU6.o.within.ext iD.o (fun _ _ f=>f)) Ci.o (by decide) (by decide) Zed (OW Px))
        clear Pw Px DL Py hi cA cg cq
        obtain⟨l0,li,ng,nh,ni⟩:=info_parts OX
        have Pz:eX W1 wc:=HN8.o.ext
        obtain⟨IB,jA,x',_,DR⟩:=ZdY.o.ext Pz (fun _ _ f=>f)
        rw[mm.o] at x'
        obtain⟨ir,Pf,DS,HX8⟩:=bH jA x' DR Pz
        clear jA x' DR Pz
        go_wp2_with (at_builtin;refine vt rfl _ _ 292 rfl 334 l0 (.agg #[ae]) 1 24 underlying292 li ng nh ni rfl (by decide) (ae) 0 [] rfl (World.ownsRow_nil _ _ _ _) _ _ _ rfl Pf.o (CR.Iy ir.o DS.o) ?c3 ?c4 ?_)
        case c3=>unfold maxLen;omega
        case c4=>omega
        intro v9 wd Zab hg9 Zac
        have PB:wd.ownsRow 0 334 1 v9 (([]:List (List (List Ed))).length+(fW T (A.zip bs)).length) ([]++IB):=by rw[mm.o];simpa using Zab
        obtain⟨qR,Zad,Zae⟩:=Iz (w0:=wc) (E:=E) (cs:=[]) (rr wc) (World.ownsRow_nil _ _ _ _) rfl (fun i u c hu=>by simp at hu) (fun k=>sW k _) ir.o DS.o PB hg9 Zac
        rw[List.nil_append] at Zad
        obtain⟨a9,Zee,e9⟩:=vz PB
        rw[show([]:List (List (List Ed))).length+(fW T (A.zip bs)).length=cn by rw[mm.o];simp] at e9
        subst e9
        obtain⟨vs9,hl9,PC,_,Zaf⟩:=Zad
        obtain⟨vsd,PD,PE,_,held⟩:=HU8.o.ext qR (fun _ _ f=>f)
        have Zag:wd.ownsRow 0 334 1 (.slice a9 cn Zee) cn vs9:=by rw[mm.o] at PC;exact PC
        rw[ZZ.o] at PE
        obtain⟨Zef,HO9,Zeg,PG,Zeh,Zah,IL,Zai⟩:=cT hl9 Zag Zaf qR Zae PD PE held
        clear Zab PB hg9 Zac qR hl9 PC Zag Zaf Zae PD PE held
        go_wp2_with (at_builtin;refine vt rfl _ _ 292 rfl 334 l0 (.agg #[ae]) 1 24 underlying292 li ng nh ni rfl (by decide) _ _ _ rfl HO9.o _ _ _ rfl IL.o (CR.Iy Zah.o Zai.o) ?c3 ?c4 ?_)
        case c3=>unfold maxLen;omega
        case c4=>omega
        intro v10 we PH Zaj Zak
        obtain⟨PI,PJ,_⟩:=Iz (w0:=wc) (w:=wd) (E:=fun _=>True) (cs:=fW T (A.zip bs)) (cs3:=nV T y bb) PG.o (by rw[mm.o];exact HO9.o) Zef.o (fun i u c hu hc=>(Zeg.o i u c hu hc).mono (fun _ _=>trivial)) Zeh.o Zah.o (fun i u c hu hc=>(Zai.o i u c hu hc).mono (fun _ _=>trivial)) (by rw[mm.o,ZZ.o];exact PH) Zaj Zak
        rw[<- qw6 HY.o] at PJ
        obtain⟨a10,Zei,e10⟩:=vz PH
        subst e10
        have IM:eX W1 we:=HX8.o.trans PI
        have hWe:=p8.o.ext IM (fun _ _ f=>f) (fun _ _ f=>f)
        have IN:(bs++[bb]).length=bs.length+1:=by simp
        have Au:=fk.o we x (bs++[bb]) (.slice a8 (en+Ax) Zec) (.slice a10 (cn+IK) Zei) (fun k=>k<we.heap.size) (by rw[IN];have:=HN.o;omega) (by rw[IN];omega) hWe ((HL.o.ext (ZV.o) (fun k hk e=>(HW.o.fY 4 k e).2 (dv.o k hk)) (fun k _ hd e=>(HW.o.fY 4 k e).2 hd)).ext IM (fun _ _ f=>f) (fun _ _ _ f=>f)) dv.o (HN8.o.row.ext PI (fun _ _ f=>f)) PJ.within (fun _ h=>h)
        rw[IN] at Au
        obtain⟨Zal,Zej⟩:=aH Au IM
        clear PH Zaj Zak PI PJ IM hWe IN Au li ng nh ni
        have Zam:((bs.length+1:Nat):Int)=(bs.length:Int)+1:=by omega
        rw[Zam] at Zal
        clear Zam
        go_wp2_with fail
        refine Zal.o.mono ?_
        rintro e w9 ⟨rfl,Zan,hw9⟩
        obtain⟨Zek,PK⟩:=aH Zan hw9
        clear Zan hw9
        have Zao:q9 (DO x) w w9:=(ZV.o.trans (Zej.o.M)).trans Zek.o
        have HEF:=q8 Zao
        clear Zao
        by_cases qj:Pt T A L (bs++[bb])
        ·rw[Zj qj]
         have Zap:s8 T A L bs=true:=Zj (Aa.o.2 (by rcases DX.o with⟨rfl,_⟩|⟨rfl,_⟩;exact .inl qj;exact .inr qj))
         have IS:=q8 Zap
         clear Zap qj
         go_wp2_with fail
         go_ret
         exact⟨by rw[IS.o];rfl,HEF.o,fun h=>by rw[IS.o] at h;exact absurd h (by decide)⟩
        ·rw[DN qj]
         have s9:=q8 qj
         have mZ:=PK.o (DN qj)
         have ru:=q8 mZ
         clear qj mZ
         go_wp2_with fail
         go_roundw
         case measure=>simp[intOf];omega
         case rel=>
          refine⟨s+1,O7 A.length (bs++[bb]),by omega,by omega,by go_num,HEF.o,ru.o,Iw _ _ (by simp;omega),O2 bb oh,fun _=>?_,fun h3=>?_⟩
          ·rcases DX.o with⟨h,_⟩|⟨_,h⟩
           ·rw[<- h];exact s9.o
           ·exact Hz.o (by omega)
          ·rcases DX.o with⟨_,h⟩|⟨h,_⟩
           ·omega
           ·rw[<- h];exact s9.o
       ·go_wp2_with fail
        go_ret
        have dt:=DN (fun h=>(Aa.o.1 h).elim (Hz.o (by omega)) (zy.o (by omega)))
        obtain⟨h1,h2⟩:=yb.o.Ix ZO.o bs.length 0
        rw[ZM.o] at h1
        exact⟨by rw[dt];rfl,Ik.o.trans h2,fun _=>h1⟩
end
end Go.Proofs.YtegbdaffhpiacaaGreatDoor
