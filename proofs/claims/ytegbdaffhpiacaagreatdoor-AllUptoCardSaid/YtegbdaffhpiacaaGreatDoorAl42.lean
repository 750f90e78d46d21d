/- Part. -/
import Derived.Test.YtegbdaffhpiacaaGreatDoorAl32
import Derived.Test.YtegbdaffhpiacaaGreatDoorAl30
set_option maxHeartbeats 400000
open List renaming length->aA
open Option renaming some->aQ
open Or renaming inl->aO,inr->aP
open Go.Value renaming bool->aN,ownBlock->aB
namespace Go.Proofs.YtegbdaffhpiacaaGreatDoor
open Tryz
open Go.RowKit Ar
variable{sb hb g g1 k m g':Nat}{c c1 c':dj}{tv lv yX yY je fY:au}{w w1:ao}{l:aW}{S:aj}
def Fb(s:St):ak:=[iI s.q,aN s.yes,aN s.dq,iU s.bU.a,iU s.bU.b,iU s.bU.c]
def lH(s:St):au:=.agg #[iI s.q,aN s.yes,aN s.dq,iU s.bU.a,iU s.bU.b,iU s.bU.c]
def sJ(tr:bh):ak:=tr.flatMap Fb
theorem jE1(s:St):aA (Fb s)=6:=rfl
theorem jR2(tr:bh)(k:Nat):(sJ tr).take (k*6)=sJ (tr.take k):=jc7 jE1 tr k
structure yZ(w:World)(lv:Value)(m:Nat)(ls:List (aW)):Prop where
 ex:∃ vs:List Value,w.ownsRow 0 136 1 lv (aA ls) vs/\∀ (k:Nat) (l:aW),ls[k]?=aQ l->aA l=m/\∃ b v,vs[k]?=aQ v/\WS w b v l
def fj(AK:bj)(tr:bh):bq:=tr.map (fun s=>(fD AK s.q,s.yes))
theorem Fc(AK:bj)(tr:bh):aA (fj AK tr)=aA tr:=by simp[fj]
theorem qI7(AK:bj)(tr:bh)(k:Nat):fj AK (tr.take k)=(fj AK tr).take k:=by simp[fj]
theorem jE2(AK:bj)(tr:bh)(s:St):fj AK (tr++[s])=fj AK tr++[(fD AK s.q,s.yes)]:=by simp[fj]
theorem jZ7(AK:bj)(q:Nat):(fD AK q).at_=ku (AK.map PA.at_) q:=by unfold fD ku;rw[dN,fG];cases e:AK[q]? with|none=>(simp[PA.at_,ByteArray.toList_eq])|some x=>rfl
theorem QJ(AK:bj)(tr:bh):H6 (fj AK tr)=di (AK.map PA.at_) tr:=by unfold H6 fj di;rw[List.map_map];apply GY;intro s _;show((fD AK s.q).at_,s.yes)=_;rw[jZ7]
structure cH(B:Nat)(w:World)(sb hb g:Nat)(c:dj)(TK:bg)(AK:bj)(tw:aX)(tv lv:Value)(tr:bh)(As:bq)(ls:List (aW))(TT:bo):Prop where
 bP:w.heap[sb]?=aQ (.cells #[.iface 139 (pT hb),iI (aA AK),tv,lv] 187)
 row:w.ownsRow 0 250 6 tv (aA tr) (sJ tr)
 lf:yZ w lv (2^(aA AK-6)) ls
 th:cM w hb g c TK AK tw As TT
 pat:y9 w
 bp:1<B
 bB:B<=w.heap.size
 bs:B<=sb/\B<=hb/\B<=g
 bv:∀ k,aB c.sv=aQ k\/aB tv=aQ k\/aB lv=aQ k->B<=k
def mF(sb hb g:Nat)(c:dj)(tv lv:au)(k:Nat):Prop:=k=sb\/k=hb\/k=g\/aB c.sv=aQ k\/aB tv=aQ k\/aB lv=aQ k
structure Mv(sb hb g:Nat)(c:dj)(tv lv:Value)(g':Nat)(c':dj)(je fY:Value)(w w':World):Prop where
 ext:q9 (mF sb hb g c tv lv) w w'
 new:∀ k,mF sb hb g' c' je fY k->mF sb hb g c tv lv k\/w.heap.size<=k
theorem Mv.z{d:Nat}{c2:dj}{a b:au}{f:ao}(h:Mv sb hb g c tv lv g1 c1 yX yY w w1)(k:Mv sb hb g1 c1 yX yY d c2 a b w1 f):Mv sb hb g c tv lv d c2 a b w f:=by have j:=h.ext.size;refine⟨h.ext.z' k.ext (λi _ e=>?_),λi e=>?_⟩;rcases h.new i e with e|e;exact e;omega;rcases k.new i e with e|e;exact h.new i e;exact lQ
theorem Mv.quiet{w':ao}(h:eX w w'):Mv sb hb g c tv lv g c tv lv w w':=⟨h.M,λ_ e=>aO e⟩
theorem Mv.fX(h:Mv sb hb g c tv lv g1 c1 yX yY w w1){o:Obj}(b:w.heap[k]?=aQ o)(d:¬mF sb hb g c tv lv k):w1.heap[k]?=aQ o/\¬mF sb hb g1 c1 yX yY k:=by have a:=j9 b;refine⟨(h.ext.block k a d).z b,λe=>?_⟩;rcases h.new k e with e|e;exact d e;omega
section
variable{B:Nat}{w w':ao}{sb hb g:Nat}{c:dj}{TK:bg}{AK:bj}{tw:aX}{tv lv:au}{tr:bh}{As:bq}{ls:List (aW)}{TT:bo}
theorem WS.wO{b:Nat}{v:au}(h:WS w b v l):∃a,w.heap[b]?=ad a 195:=by obtain⟨_,a,_,_,h⟩:=h.shape;exact⟨a,h⟩
theorem yZ.ext(h:yZ w lv m ls)(d:q9 S w w')(o:∀k,aB lv=aQ k->¬S k)(j:∀k a,w.heap[k]?=ad a 195->¬S k):yZ w' lv m ls:=by obtain⟨vs,g,f⟩:=h.ex;refine⟨vs,j8 g d o,λk l i=>?_⟩;obtain⟨e,b,v,n,c⟩:=f k l i;obtain⟨a,p⟩:=c.wO;exact⟨e,b,v,n,c.ext d (j b a p)⟩
theorem cH.ext(h:cH B w sb hb g c TK AK tw tv lv tr As ls TT)(a:eX w w'):cH B w' sb hb g c TK AK tw tv lv tr As ls TT:=⟨a.K h.bP,j8 h.row a (λ_ _ f=>f),h.lf.ext a (λ_ _ f=>f) (λ_ _ _ f=>f),h.th.ext a (λ_ _ f=>f),h.pat.ext a id,h.bp,dm h.bB a.size,h.bs,h.bv⟩
theorem cH.apart(h:cH B w sb hb g c TK AK tw tv lv tr As ls TT)(d:k=hb\/k=g\/aB c.sv=aQ k):¬k=sb/\¬aB tv=aQ k/\¬aB lv=aQ k/\∀a,¬w.heap[k]?=ad a 195:=by
 obtain⟨_,m,_⟩:=h.lf.ex;have f:=h.th.bP;obtain⟨_,C,_,j,_⟩:=h.th.tb.ex;have b:∀{k:Nat}{C:Array au}{t:TypeId},w.heap[k]?=ad C t->t≠187->t≠250->t≠136->t≠195->¬k=sb/\¬aB tv=aQ k/\¬aB lv=aQ k/\∀a,¬w.heap[k]?=ad a 195:=by intro k C t d n o i l;refine⟨λe=>?_,K8 h.row d (λe=>o e.symm),K8 m d (λe=>i e.symm),λa e=>?_⟩;subst e;have:=h.bP;rw[d]at this;simp at this;exact n this.2;rw[d]at e;simp at e;exact l e.2
 rcases d with e|e|e;subst e;exact b f bJ bJ bJ bJ;subst e;exact b j bJ bJ bJ bJ;obtain⟨a,p⟩:=O4 h.th.ss e;exact b p bJ bJ bJ bJ
theorem cH.Zai{b:List (PA×Bool)}{d:bo}(h:cH B w sb hb g c TK AK tw tv lv tr As ls TT)(f:q9 (λk=>k=hb\/k=g\/aB c.sv=aQ k) w w')(m:cM w' hb g' c' TK AK tw b d)(p:g'=g\/w.heap.size<=g')(o:∀k,aB c'.sv=aQ k->aB c.sv=aQ k\/w.heap.size<=k):cH B w' sb hb g' c' TK AK tw tv lv tr b ls d:=by have l:=h.bB;obtain⟨j,n,_⟩:=h.bs;refine⟨(f.block _ (j9 h.bP) (λe=>(h.apart e).1 rfl)).z h.bP,j8 h.row f (λk a e=>(h.apart e).2.1 a),h.lf.ext f (λk a e=>(h.apart e).2.2.1 a) (λk i q e=>(h.apart e).2.2.2 i q),m,h.pat.ext f (λe=>?_),h.bp,dm l f.size,⟨j,n,?_⟩,λk a=>?_⟩;have r:=h.bp;rcases e with e|e|e;omega;omega;have:=h.bv _ (aO e);omega;rcases p with e|e<;>omega;rcases a with e|e|e;rcases o k e with e|e;exact h.bv k (aO e);omega;exact ZdD;exact ZdE
theorem Fe{a:Option Addr}{n cap b:Nat}(h:aB (Value.slice a n cap)=aQ k):aB (Value.slice a m b)=aQ k:=by cases a with|none=>(simp[Value.ownBlock]at h)|some c=>simpa[Value.ownBlock]using h
theorem cH.Zaj{a:bh}(h:cH B w sb hb g c TK AK tw tv lv tr As ls TT)(b:q9 (λk=>k=sb\/aB tv=aQ k) w w')(m:w'.heap[sb]?=ad #[.iface 139 (pT hb),iI (aA AK),je,lv] 187)(i:w'.ownsRow 0 250 6 je (aA a) (sJ a))(d:∀k,aB je=aQ k->aB tv=aQ k\/w.heap.size<=k):cH B w' sb hb g c TK AK tw je lv a As ls TT:=by
 have l:=h.bB;have j:∀k,(k=hb\/k=g\/aB c.tv=aQ k\/aB c.av=aQ k\/aB c.wv=aQ k\/aB c.sv=aQ k)->¬(k=sb\/aB tv=aQ k):=by intro k hk e;have key:∀{C:Array au}{t:TypeId},w.heap[k]?=ad C t->t≠187->t≠250->False:=by{intro C t h1 n1 n;rcases e with e|e;exact Zjo;exact K8 h.row h1 (λq=>n q.symm) e};exact ZkW
 obtain⟨_,f,_⟩:=h.lf.ex;refine⟨m,i,h.lf.ext b (λk hk e=>?_) (λk cur hc e=>?_),h.th.ext b j,h.pat.ext b (λe=>?_),h.bp,dm l b.size,h.bs,λk hk=>?_⟩;rcases e with e|e;subst e;exact K8 f h.bP bJ hk;obtain⟨cur,hc⟩:=O4 h.row e;exact K8 f hc bJ hk;rcases e with e|e;exact ZdT;exact K8 h.row hc bJ e;have o:=h.bp;rcases e with e|e;have:=h.bs.1;omega;have:=h.bv _ (aP (aO e));omega;rcases hk with e|e|e;exact h.bv k (aO e);rcases d k e with e|e;exact ZdD;omega;exact ZdE
theorem cH.QK{a:List (aW)}(h:cH B w sb hb g c TK AK tw tv lv tr As ls TT)(b:q9 (λk=>k=sb\/aB lv=aQ k) w w')(m:w'.heap[sb]?=ad #[.iface 139 (pT hb),iI (aA AK),tv,fY] 187)(i:yZ w' fY (2^(aA AK-6)) a)(d:∀k,aB fY=aQ k->aB lv=aQ k\/w.heap.size<=k):cH B w' sb hb g c TK AK tw tv fY tr As a TT:=by
 have l:=h.bB;obtain⟨_,f,_⟩:=h.lf.ex;have j:∀k,(k=hb\/k=g\/aB c.tv=aQ k\/aB c.av=aQ k\/aB c.wv=aQ k\/aB c.sv=aQ k)->¬(k=sb\/aB lv=aQ k):=by intro k hk e;have key:∀{C:Array au}{t:TypeId},w.heap[k]?=ad C t->t≠187->t≠136->False:=by{intro C t h1 n1 n;rcases e with e|e;exact Zjo;exact K8 f h1 (λq=>n q.symm) e};exact ZkW
 refine⟨m,j8 h.row b (λk hk e=>?_),i,h.th.ext b j,h.pat.ext b (λe=>?_),h.bp,dm l b.size,h.bs,λk hk=>?_⟩;rcases e with e|e;subst e;exact K8 h.row h.bP bJ hk;obtain⟨cur,hc⟩:=O4 f e;exact K8 h.row hc bJ hk;have o:=h.bp;rcases e with e|e;have:=h.bs.1;omega;have:=h.bv _ (aP (aP e));omega;rcases hk with e|e|e;exact h.bv k (aO e);exact ZdD;rcases d k e with e|e;exact ZdE;omega
theorem cH.lt(h:cH B w sb hb g c TK AK tw tv lv tr As ls TT)(a:mF sb hb g c tv lv k):k<w.heap.size/\B<=k:=by obtain⟨b,f,i⟩:=h.bs;obtain⟨_,d,_⟩:=h.lf.ex;obtain⟨_,_,_,j,_⟩:=h.th.tb.ex;rcases a with e|e|e|e|e|e;subst e;exact⟨j9 h.bP,b⟩;subst e;exact⟨j9 h.th.bP,f⟩;subst e;exact⟨j9 j,i⟩;exact⟨(h.th.ss.lt k e).2,h.bv k (aO e)⟩;exact⟨(h.row.lt k e).2,h.bv k (aP (aO e))⟩;exact⟨(d.lt k e).2,h.bv k (aP (aP e))⟩
theorem cH.QL(h:cH B w sb hb g c TK AK tw tv lv tr As ls TT)(a:Mv sb hb g c tv lv g' c' je fY w w'):Below B w w':=by refine⟨a.ext.os,a.ext.tape,a.ext.output,a.ext.size,λk _=>a.ext.block k (by have:=h.bB;omega) (λe=>?_)⟩;have:=(h.lt e).2;omega
theorem cH.aside(h:cH B w sb hb g c TK AK tw tv lv tr As ls TT)(j:q9 S w w')(m:∀k,S k->¬mF sb hb g c tv lv k/\∃C t,w.heap[k]?=ad C t/\t≠195/\t≠145/\t≠153/\t≠151/\t≠336):cH B w' sb hb g c TK AK tw tv lv tr As ls TT:=by
 have l:∀k,mF sb hb g c tv lv k->¬S k:=λk d e=>(m k e).1 d;have b:∀k C t,w.heap[k]?=ad C t->(t=195\/t=145\/t=153\/t=151\/t=336)->¬S k:=by intro k C t d o e;obtain⟨_,_,_,f,r,s,p,q,n⟩:=m k e;rw[d]at f;simp at f;obtain⟨_,rfl⟩:=f;rcases o with e|e|e|e|e;exact r e;exact s e;exact p e;exact q e;exact n e
 refine⟨(j.block _ (j9 h.bP) (l sb (aO rfl))).z h.bP,j8 h.row j (λk d=>l k (aP (aP (aP (aP (aO d)))))),h.lf.ext j (λk d=>l k (aP (aP (aP (aP (aP d)))))) (λk a i=>b k a _ i (aO rfl)),h.th.ext j (λk d=>?_),h.pat.ext j (b _ _ _ h.pat (aP (aP (aP (aP rfl))))),h.bp,dm h.bB j.size,h.bs,h.bv⟩;rcases d with e|e|e|e|e|e;exact l k (aP (aO e));exact l k (aP (aP (aO e)));obtain⟨a,i⟩:=O4 h.th.ts e;exact b k a _ i (aP (aO rfl));obtain⟨a,i⟩:=O4 h.th.gj e;exact b k a _ i (aP (aP (aO rfl)));obtain⟨a,i⟩:=O4 h.th.tw e;exact b k a _ i (aP (aP (aP (aO rfl))));exact l k (aP (aP (aP (aO e))))
theorem cH.below(h:cH B w sb hb g c TK AK tw tv lv tr As ls TT)(a:q9 S w w')(b:∀k,k<w.heap.size->S k->k=sb\/k=hb\/k=g\/aB c.sv=aQ k\/aB tv=aQ k\/aB lv=aQ k):Below B w w':=by refine⟨a.os,a.tape,a.output,a.size,λk _=>a.block k (by have:=h.bB;omega) (λe=>?_)⟩;obtain⟨_,_,_⟩:=h.bs;have d:=h.bB;rcases b k bH e with e|e|e|e|e|e;omega;omega;omega;have:=h.bv k (aO e);omega;have:=h.bv k (aP (aO e));omega;have:=h.bv k (aP (aP e));omega
end
section
variable{B:Nat}{w w':ao}{sb hb g:Nat}{c:dj}{TK:bg}{AK:bj}{tw:aX}{tv lv:au}{tr:bh}{As:bq}{ls:List (aW)}{TT:bo}
theorem yZ.at_(h:yZ w lv m ls)(d:ls[k]?=aQ l):∃gl cap b v,lv=az gl (aA ls) cap/\w.cell? (aD gl k)=aQ v/\WS w b v l/\aA l=m:=by obtain⟨_,c,i⟩:=h.ex;obtain⟨g,b,v,j,e⟩:=i k l d;have f:=(ck.1 d).1;rcases c.2 with⟨_,_⟩|⟨gl,cap,_,a,_⟩;omega;rw[a]at c;exact⟨gl,cap,b,v,a,(c.cellAt k bH).z j,e,g⟩
theorem QM(h:cH B w sb hb g c TK AK tw tv lv tr As ls TT)(j:ls[aA ls-1]?=aQ l)(q:aA ls<=1000):cP 176 #[pT sb] w λe w'=>∃b v,e=.returned v/\WS w b v l/\aA l=2^(aA AK-6)/\w'=w.drew:=by have k:=h.bP;obtain⟨_,_,b,v,f,r,m,d⟩:=h.lf.at_ j;have i:=(ck.1 j).1;obtain⟨n,a⟩:∃n,aA ls=n+1:=⟨aA ls-1,bH⟩;rw[a,td]at r;rw[f,a]at k;have c3:=z7 k 3;have p:=q8 m;have o:n<=1000:=bH;clear h k f m j i a q;delta cP;go_in;go_wp2;go_region;go_wp2;go_ret;exact⟨b,v,rfl,p,d,rfl⟩
theorem zV3(h:cH B w sb hb g c TK AK tw tv lv tr As ls TT)(t:aA AK<=16)(s:St)(r:s.q<16):cP 178 #[pT sb,lH s] w λe w'=>∃b v,e=.returned v/\w.heap.size<=b/\eX w w'/\WS w' b v (V5 (2^(aA AK-6)) s.q s.yes):=by have k:=h.bP;have c1:=z7 k 1;have l:Hid (∀W,eX w W->cP 127 #[iI (aA AK),iI s.q,aN s.yes] W λe w'=>∃n m,e=.returned m/\W.heap.size<=n/\eX W w'/\WS w' n m (V5 (2^(aA AK-6)) s.q s.yes)):=λW f=>ZX (aA AK) s.q s.yes t r (h.pat.ext f id);obtain⟨V,hV⟩:∃V,w.alloc (.cells #[iI s.q,aN s.yes,aN s.dq,iU s.bU.a,iU s.bU.b,iU s.bU.c] 250)=V:=⟨_,rfl⟩;have d:eX w V:=zy;have o:V.heap[w.heap.size]?=ad #[iI s.q,aN s.yes,aN s.dq,iU s.bU.a,iU s.bU.b,iU s.bU.c] 250:=zz;have c1:=z7 (d.K k) 1;obtain⟨_,_⟩:=db o 0 1;have p:=j9 k;have i:=q8 hV;have a:eX w V.drew:=d.drew;clear h k o hV d;unfold lH;delta cP;go_in;go_wp2;rw[i.o];clear i;go_region_law (go_simp;go_wp2_with(go_at_call 127;refine(l _ a).I ?_;rintro e _ ⟨b,v,rfl,hb,f,j⟩;have q:=q8 (And.intro hb (And.intro f j));clear hb f j));all_goals go_wp2;go_ret;obtain⟨hb,f,j⟩:=q.o;exact⟨b,v,rfl,dm a.size hb,a.z f,j⟩
end
section
variable{B:Nat}{w w':ao}{sb hb g:Nat}{c:dj}{TK:bg}{AK:bj}{tw:aX}{tv lv:au}{tr:bh}{As:bq}{ls:List (aW)}{TT:bo}
theorem cH.step(h:cH B w sb hb g c TK AK tw tv lv tr As ls TT){s:St}(d:tr[k]?=aQ s):∃a cap,tv=az a (aA tr) cap/\a<w.heap.size/\w.cell? ⟨a,k*6,none⟩=aQ (iI s.q)/\w.cell? ⟨a,k*6+1,none⟩=aQ (aN s.yes)/\w.cell? ⟨a,k*6+2,none⟩=aQ (aN s.dq)/\w.cell? ⟨a,k*6+3,none⟩=aQ (iU s.bU.a)/\w.cell? ⟨a,k*6+4,none⟩=aQ (iU s.bU.b)/\w.cell? ⟨a,k*6+5,none⟩=aQ (iU s.bU.c):=by have f:=(ck.1 d).1;rcases h.row.2 with⟨_,_⟩|⟨a,cap,_,e,_,i,_⟩;omega;have b:=h.row;rw[e]at b;have q:∀j u,(Fb s)[j]?=aQ u->(sJ tr)[k*6+j]?=aQ u:=λj u l=>Yr jE1 d l;exact⟨a,cap,e,j9 i,(b.cellAt (k*6) bH).z (q 0 _ rfl),(b.cellAt (k*6+1) bH).z (q 1 _ rfl),(b.cellAt (k*6+2) bH).z (q 2 _ rfl),(b.cellAt (k*6+3) bH).z (q 3 _ rfl),(b.cellAt (k*6+4) bH).z (q 4 _ rfl),(b.cellAt (k*6+5) bH).z (q 5 _ rfl)⟩
theorem qJ4(h:cH B w sb hb g c TK AK tw tv lv tr As ls TT)(m:M3)(A:X8 (aA tr) m):cP 135 #[pT sb,m.val] w λe w'=>eX w w'/\∃r,e=.returned (aN r)/\(r=true->(∀k,m.has k=false)\/∃p s,m.has p=true/\(∀j,m.has j=true->j<=p)/\tr[p]?=aQ s/\s.q<aA AK)/\(r=false->∃p s,m.has p=true/\(∀j,m.has j=true->j<=p)/\tr[p]?=aQ s/\aA AK<=s.q):=by obtain⟨t,H,z⟩:=bV (Pg m) h A;unfold M3.val at t⊢;clear h A;delta cP;go_in;go_wp2_with fail;refine(t _).I ?_;rintro e _ ⟨a,⟨rfl,f⟩|⟨k,rfl,o,b⟩⟩;{have l:=q8 (((eR w).alloc _).z a);have D:=q8 f;clear a f;go_wp2_with fail;go_region;go_wp2_with fail;go_ret;exact⟨l.drew,true,rfl,λ_=>aO D,λe=>cT⟩};have x:=((eR w).alloc _).z a;have q:=H.ext x;have n:=z k o;obtain⟨s,v⟩:∃s,tr[k]?=aQ s:=⟨_,bZ n⟩;obtain⟨_,_,i,_,_,_⟩:=q.step v;have y:=q.bP;rw[i]at y;obtain⟨_,_⟩:=db y 1 2;obtain⟨l,d⟩:=bM x (And.intro o (And.intro b v));clear x a q o b v y i H z t;by_cases C:s.q<aA AK;{have u:decide ((s.q:Int)<(aA AK:Int))=true:=ig bH;go_wp2_with fail;go_region;go_wp2_with fail;go_ret;exact⟨l.drew,true,bK,λ_=>aP ⟨k,s,d.1,d.2.1,d.2.2,C⟩,λe=>cT⟩};have u:decide ((s.q:Int)<(aA AK:Int))=false:=iE bH;go_wp2_with fail;go_region;go_wp2_with fail;go_ret;exact⟨l.drew,false,bK,λe=>cT,λ_=>⟨k,s,d.1,d.2.1,d.2.2,bH⟩⟩
end
end Go.Proofs.YtegbdaffhpiacaaGreatDoor
