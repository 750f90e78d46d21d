/- Part. -/
import Derived.Test.YtegbdaffhpiacaaGreatDoorAl18
open Bool renaming false->aT,true->aS
open List renaming length->aA
open Option renaming some->aQ
open Or renaming inl->aO,inr->aP
namespace Go.Proofs.YtegbdaffhpiacaaGreatDoor
namespace Ar
structure St where
 q:Nat
 yes:Bool
 dq:Bool
 bU:M3
abbrev bh:=List St
def ku(A:List At)(q:Nat):At:=match A[q]? with
 | some x=>x
 | none=>⟨[60],(q-aA A)/12,(q-aA A)%12,0⟩
def di(A:List At)(tr:bh):List (At × Bool):=tr.map (fun s=>(ku A s.q,s.yes))
theorem qZ7(A:List At)(tr:bh):aA (di A tr)=aA tr:=UN
theorem Je(A:List At)(tr:bh)(k:Nat):(di A tr)[k]?=(tr[k]?).map (λs=>(ku A s.q,s.yes)):=UN
theorem qZ8(A:List At)(tr a:bh):di A (tr++a)=di A tr++di A a:=UN
theorem jC6(A:List At)(tr:bh)(k:Nat):di A (tr.take k)=(di A tr).take k:=UN
def su(tr:bh)(n:Nat)(x:Nat):Prop:=∀ k s,k<n->tr[k]?=aQ s->x.testBit s.q=s.yes
def og(A:List At)(v:Nat->Int)(x:Nat):Prop:=∀ k a,A[k]?=aQ a->x.testBit k=a.tr v
structure dS(F:Fx)(A:List At)(W:Nat)(allowed:Nat->Bool)(tr:bh)(left:List (Nat->Bool))(l0:Nat->Bool):Prop where
 len:aA left=min (aA tr) (aA A)+1
 gj:∀ k s,tr[k]?=aQ s->(k<aA A↔s.q<aA A)
 nd:(tr.map (·.q)).Nodup
 AI:∀ s∈tr,s.q<aA A+144
 lf:∀ n l,left[n]?=aQ l->∀ x,x<W->(l x=aS↔l0 x=aS/\su tr n x)
 sub:∀ x,x<W->l0 x=aS->allowed x=aS
 snd:∀ v,F.V v->∀ x,x<W->allowed x=aS->og A v x->l0 x=aS
 tn:∀ k s,tr[k]?=aQ s->X8 k s.bU/\(s.dq=aS->∀ v,F.V v->Hs (HA (di A tr)) s.bU v->(ku A s.q).tr v=s.yes)/\(s.dq=aT->s.bU=M3.none)
 some_:∃ x,x<W/\l0 x=aS/\su tr (aA A) x
theorem dS.get{F:Fx}{A:List At}{W:Nat}{al l0:Nat->Bool}{tr:bh}{left:List (Nat->Bool)}(h:dS F A W al tr left l0){n:Nat}(a:n<=min (aA tr) (aA A)):∃l,left[n]?=aQ l:=by have:=h.len;exact⟨left[n]' bH,bZ bH⟩
theorem dS.cL{F:Fx}{A:List At}{W:Nat}{al l0:Nat->Bool}{tr:bh}{left:List (Nat->Bool)}(h:dS F A W al tr left l0):aA tr<=aA A+144:=by
 have h1:=h.nd;have h2:∀q∈tr.map (·.q),q<aA A+144:=by intro q hq;obtain⟨s,f,rfl⟩:=dP.1 hq;exact h.AI s f
 have c:∀(M:Nat)(l:List Nat),l.Nodup->(∀q∈l,q<M)->aA l<=M:=by intro M;induction M with|zero=>(intro l _ hl;cases l with|nil=>(simp)|cons a b=>exact absurd (hl a bK) bH)|succ M d=>intro l hn hl;by_cases hm:M∈l;have e:=List.length_erase_of_mem hm;have:=d (l.erase M) (hn.erase M) (λq hq=>Zhh);exact Zdl;have:=d l hn (λq hq=>ZhZ);omega
 have:=c _ _ h1 h2;exact lO
theorem dS.start(F:Fx)(A:List At)(W:Nat)(al:Nat->Bool)(h:∃x,x<W/\al x=aS):dS F A W al [] [al] al:=by
 obtain⟨x,d,c⟩:=h;refine⟨bK,bK,bK,bK,? _,λ_ _ e=>e,λ_ _ _ _ e _=>e,bK,x,d,c,λk s b e=>cT⟩;intro n _ a x _;have:n=0:=by rcases Nat.eq_zero_or_pos n with e|e;exact e;rw[jl bQ]at a;simp at a
 subst this;simp at a;subst a;exact⟨λe=>⟨e,λk s b=>bH⟩,λe=>e.1⟩
theorem sw{α:Type}{l:List α}{x y:α}{k:Nat}(h:(l++[x])[k]?=aQ y):(k<aA l/\l[k]?=aQ y)\/(k=aA l/\y=x):=by
 by_cases a:k<aA l;rw[ei a]at h;exact aO ⟨a,h⟩;rw[du bH]at h;have b:k-aA l=0:=by rcases Nat.eq_zero_or_pos (k-aA l)with e|e;exact e;rw[jl bQ]at h;exact ga
 rw[b]at h;simp at h;exact aP ⟨bH,h.symm⟩
theorem Pl{tr:bh}{s:St}{n x:Nat}(b:n<=aA tr):su (tr++[s]) n x↔su tr n x:=by constructor;intro h k t a e;exact h k t a (by rw[ei bH];exact e);intro h k t a e;rw[ei bH]at e;exact h k t a e
theorem YV{tr:bh}{s:St}{n x:Nat}(f:aA tr<n):su (tr++[s]) n x↔su tr n x/\x.testBit s.q=s.yes:=by constructor;intro h;refine⟨λk t a e=>? _,h (aA tr) s f bK⟩;have b:k<aA tr:=(ck.1 e).1;exact h k t a (by rw[ei b];exact e);rintro⟨d,c⟩k t a e;rcases sw e with⟨_,e⟩|⟨_,rfl⟩;exact d k t a e;exact c
theorem YW{l:List Nat}{x:Nat}(h:l.Nodup)(b:x∉l):(l++[x]).Nodup:=by rw[GO];refine⟨h,bK,λ_ a _ hb e=>? _⟩;simp at hb;subst hb e;exact b a
theorem YX{F:Fx}{A:List At}{W:Nat}{al l0:Nat->Bool}{tr:bh}{left:List (Nat->Bool)}(h:dS F A W al tr left l0){s:St}(hb:X8 (aA tr) s.bU)(i:s.dq=aS->∀v,F.V v->Hs (HA (di A tr)) s.bU v->(ku A s.q).tr v=s.yes)(c:s.dq=aT->s.bU=M3.none):∀k t,(tr++[s])[k]?=aQ t->X8 k t.bU/\(t.dq=aS->∀v,F.V v->Hs (HA (di A (tr++[s]))) t.bU v->(ku A t.q).tr v=t.yes)/\(t.dq=aT->t.bU=M3.none):=by intro k t e;rcases sw e with⟨_,e⟩|⟨rfl,rfl⟩;obtain⟨f,g,l⟩:=h.tn k t e;refine⟨f,λa v b hh=>g a v b (λj hj=>? _),l⟩;have d:=f j hj;exact ZiX;refine⟨hb,λa v b hh=>i a v b (λj hj=>? _),c⟩;have d:=hb j hj;exact ZiX
theorem dS.atom{F:Fx}{A:List At}{W:Nat}{al l0 l:Nat->Bool}{tr:bh}{left:List (Nat->Bool)}(h:dS F A W al tr left l0){s:St}(r:s.q<aA A)(z:aA tr<aA A)(y:s.q∉tr.map (·.q))(o:s.dq=aT)(hb:s.bU=M3.none)(C:∃x,x<W/\l0 x=aS/\su tr (aA A) x/\x.testBit s.q=s.yes){last:Nat->Bool}(f:left[aA left-1]?=aQ last)(g:∀x,x<W->(l x=aS↔last x=aS/\x.testBit s.q=s.yes)):dS F A W al (tr++[s]) (left++[l]) l0:=by have i:=h.len;refine⟨bQ,? _,? _,? _,? _,h.sub,h.snd,? _,? _⟩;intro k t e;rcases sw e with⟨_,e⟩|⟨rfl,rfl⟩;exact h.gj k t e;exact⟨λ_=>r,λ_=>z⟩;rw[nK];exact YW h.nd y;exact ZhO;intro n m hm x d;rcases sw hm with⟨D,e⟩|⟨D,rfl⟩;rw[Pl bH];exact h.lf n m e x d;rw[g x d,h.lf _ _ f x d];have E:n=aA tr+1:=bH;have w:aA left-1=aA tr:=bH;rw[E,w,YV bH];constructor;rintro⟨⟨a,b⟩,c⟩;exact⟨a,⟨λk t p e=>b k t ZjN e,c⟩⟩;rintro⟨a,b,c⟩;exact⟨⟨a,λk t p e=>b k t bH e⟩,c⟩;exact YX h (by rw[hb];exact X8.none _) (λe=>by rw[o]at e;exact cT) (λ_=>hb);obtain⟨x,v,j,B,u⟩:=C;exact⟨x,v,j,(YV bH).2 ⟨B,u⟩⟩
theorem dS.split{F:Fx}{A:List At}{W:Nat}{al l0:Nat->Bool}{tr:bh}{left:List (Nat->Bool)}(h:dS F A W al tr left l0){s:St}(o:aA A<=s.q)(l:s.q<aA A+144)(p:aA A<=aA tr)(i:s.q∉tr.map (·.q))(hb:X8 (aA tr) s.bU)(f:s.dq=aS->∀v,F.V v->Hs (HA (di A tr)) s.bU v->(ku A s.q).tr v=s.yes)(b:s.dq=aT->s.bU=M3.none):dS F A W al (tr++[s]) left l0:=by have c:=h.len;refine⟨bQ,? _,? _,? _,? _,h.sub,h.snd,YX h hb f b,? _⟩;intro k t e;rcases sw e with⟨_,e⟩|⟨rfl,rfl⟩;exact h.gj k t e;omega;rw[nK];exact YW h.nd i;exact ZhO;intro n m hm x a;have:n<aA left:=(ck.1 hm).1;rw[Pl bH];exact h.lf n m hm x a;obtain⟨x,g,d,j⟩:=h.some_;exact⟨x,g,d,(Pl bH).2 j⟩
theorem nh{α:Type}{l:List α}{c k:Nat}{x:α}(h:(l.take c)[k]?=aQ x):k<c/\l[k]?=aQ x:=by rw[pR]at h;split at h;rename_i a;exact⟨a,h⟩;exact ga
theorem Jf{tr:bh}{c n x:Nat}:su (tr.take c) n x↔su tr (min c n) x:=by constructor;intro h k s a e;exact h k s bH (by rw[pR,bO bH];exact e);intro h k s a e;obtain⟨_,b⟩:=nh e;exact h k s bH b
theorem Pm{A:List At}{tr:bh}{c k:Nat}(a:k<c)(v:Nat->Int):HA (di A (tr.take c)) k v↔HA (di A tr) k v:=by unfold HA;rw[jC6,pR,bO a]
theorem dS.leave{F:Fx}{A:List At}{W:Nat}{al l0:Nat->Bool}{tr:bh}{left:List (Nat->Bool)}(h:dS F A W al tr left l0)(c:Nat)(f:c<=aA tr):dS F A W al (tr.take c) (left.take (min c (aA A)+1)) l0:=by have a:=h.len;refine⟨bQ,? _,? _,? _,? _,h.sub,h.snd,? _,? _⟩;intro k s e;exact h.gj k s (nh e).2;exact Zcy;intro s b;exact h.AI s (gR b);intro n l e x d;obtain⟨h1,h2⟩:=nh e;rw[Jf,show min c n=n by omega];exact h.lf n l h2 x d;exact Zli;obtain⟨x,h1,h2,h3⟩:=h.some_;refine⟨x,h1,h2,? _⟩;rw[Jf];intro k s hk e;exact h3 k s bH e
theorem dS.Zev{F:Fx}{A:List At}{W:Nat}{al l0 l1:Nat->Bool}{tr:bh}{left g:List (Nat->Bool)}(h:dS F A W al tr left l0){B:M3}(w:∀k,B.has k=aS->k<aA A)(q:∀v,F.V v->¬Hs (HA (di A tr)) B v)(same:Nat->Bool)(K:∀x,x<W->(same x=aS↔∀k s,B.has k=aS->tr[k]?=aQ s->x.testBit s.q=s.yes))(D:aA g=aA left)(G:∀(n:Nat)(l H:Nat->Bool),left[n]?=aQ l->g[n]?=aQ H->∀x,x<W->H x=(l x&& ! same x))(i:∀x,x<W->l1 x=(l0 x&& ! same x))(c:Nat)(O:c<aA g)(L:∃x,x<W/\∃l,g[c]?=aQ l/\l x=aS):dS F A W al (tr.take c) (g.take (c+1)) l1:=by have J:=h.len;refine⟨bQ,? _,? _,? _,? _,? _,? _,? _,? _⟩;intro k s e;exact h.gj k s (nh e).2;exact Zcy;intro s u;exact h.AI s (gR u);intro n l e x f;obtain⟨h1,h2⟩:=nh e;obtain⟨m,r⟩:∃m,left[n]?=aQ m:=⟨left[n]' bH,bZ bH⟩;rw[Jf,show min c n=n by omega,G n m l r h2 x f,i x f];have:=h.lf n m r x f;simp only[jk];rw[this];constructor;rintro⟨⟨a,b⟩,d⟩;exact⟨⟨a,d⟩,b⟩;rintro⟨⟨a,d⟩,b⟩;exact⟨⟨a,b⟩,d⟩;intro x f e;rw[i x f]at e;simp only[jk]at e;exact h.sub x f e.1;{intro v hv x f N E;rw[i x f];simp only[jk,G1];refine⟨h.snd v hv x f N E,? _⟩;cases e:same x with|false=>(rfl)|true=>exfalso;refine q v hv (λk hk=>? _);intro _ o;rw[Je]at o;cases t:tr[k]? with|none=>(rw[t]at o;simp at o)|some s=>rw[t]at o;simp at o;subst o;have z:=(h.gj k s t).1 (w k hk);have h3:=(K x f).1 e k s hk t;obtain⟨a,p⟩:∃a,A[s.q]?=aQ a:=⟨A[s.q]' z,bZ z⟩;have I:=E s.q a p;show(ku A s.q).tr v=s.yes;unfold ku;rw[p];show a.tr v=s.yes;rw[<-I,h3]};exact Zli;obtain⟨x,f,l,y,e⟩:=L;obtain⟨m,r⟩:∃m,left[c]?=aQ m:=⟨left[c]' bH,bZ bH⟩;rw[G c m l r y x f]at e;simp only[jk]at e;have C:=(h.lf c m r x f).1 e.1;refine⟨x,f,? _,? _⟩;rw[i x f];simp only[jk];exact⟨C.1,e.2⟩;rw[Jf];intro k s hk M;exact C.2 k s bH M
theorem dS.Zew{F:Fx}{A:List At}{W:Nat}{al l0:Nat->Bool}{tr:bh}{left:List (Nat->Bool)}(h:dS F A W al tr left l0){B:M3}(i:∀k,B.has k=aS->k<aA A)(d:∀v,F.V v->¬Hs (HA (di A tr)) B v)(same:Nat->Bool)(r:∀x,x<W->(same x=aS↔∀k s,B.has k=aS->tr[k]?=aQ s->x.testBit s.q=s.yes))(t:∀x,x<W->(l0 x&& ! same x)=aT):∀v,F.V v->∀x,x<W->al x=aS->¬og A v x:=by intro v n x b u m;have p:=h.snd v n x b u m;have g:=t x b;rw[p]at g;simp at g;refine d v n (λk j=>? _);intro _ c;rw[Je]at c;cases f:tr[k]? with|none=>(rw[f]at c;simp at c)|some s=>rw[f]at c;simp at c;subst c;have l:=(h.gj k s f).1 (i k j);have q:=(r x b).1 g k s j f;obtain⟨a,e⟩:∃a,A[s.q]?=aQ a:=⟨A[s.q]' l,bZ l⟩;have o:=m s.q a e;show(ku A s.q).tr v=s.yes;unfold ku;rw[e];show a.tr v=s.yes;rw[<-o,q]
theorem YY{F:Fx}{A:List At}{W:Nat}{al l0:Nat->Bool}{tr:bh}{left:List (Nat->Bool)}(h:dS F A W al tr left l0){B:M3}(i:∀v,F.V v->¬Hs (HA (di A tr)) B v){p:Nat}{s:St}(r:tr[p]?=aQ s)(b:∀k,B.has k=aS->k<=p):X8 p ((B.sub (M3.of p)).or s.bU)/\(∀v,F.V v->Hs (HA (di A (tr.take p))) ((B.sub (M3.of p)).or s.bU) v->(ku A s.q).tr v= ! s.yes)/\(s.dq=aS->∀v,F.V v->¬Hs (HA (di A (tr.take p))) ((B.sub (M3.of p)).or s.bU) v):=by
 obtain⟨o,u,_⟩:=h.tn p s r;have j:X8 p ((B.sub (M3.of p)).or s.bU):=by refine X8.or (λk a=>? _) o;rw[M3.M4]at a;simp only[jk,G1]at a;have y:=b k a.1;have q:=M3.CW a.1;by_cases e:k=p;subst e;rw[M3.xL q]at a;simp at a;omega
 have g:∀v,F.V v->Hs (HA (di A (tr.take p))) ((B.sub (M3.of p)).or s.bU) v->¬(ku A s.q).tr v=s.yes:=by intro v f d e;refine i v f (λk a=>? _);by_cases n:k=p;subst n;intro _ m;rw[Je,r]at m;simp at m;subst m;exact e;have t:=b k a;have q:=M3.CW a;refine(Pm (c:=p) bH v).1 (d k ? _);rw[M3.CV,M3.M4,a];have:(M3.of p).has k=aT:=by{by_cases l:p<192;rw[M3.xL l];simpa using n;have x:M3.of p=⟨0,0,BitVec.twoPow 64 (p-128)⟩:=by{unfold M3.of;rw[bL bH,bL bH]};rw[x];unfold M3.has;split;simp;split;simp;simp[BitVec.getLsbD_twoPow];omega};exact xA
 refine⟨j,λv f d=>? _,λw v f d=>? _⟩;have:=g v f d;cases C:(ku A s.q).tr v<;>cases z:s.yes<;>simp_all;refine g v f d (u w v f (λk a=>? _));have:=o k a;refine(Pm (c:=p) bH v).1 (d k ? _);rw[M3.CV,a];simp
def ni:Nat->bh->Nat
 | _,[]=>0
 | 0,_::_=>0
 | m+1,s::tr=>(if s.dq=aS then 2 else 1)*3^m+ni m tr
theorem Jg:∀(m:Nat)(tr:bh),ni m tr<3^m|0,[]=>by{simp[ni]}|0,_::_=>by{simp[ni]}|m+1,[]=>by{simp[ni];exact Nat.pos_of_ne_zero bK}|m+1,s::tr=>by have:=Jg m tr;simp only[ni,Nat.pow_succ];exact pK
theorem YZ:∀(m:Nat)(tr:bh)(s:St),aA tr<m->ni m tr<ni m (tr++[s])|0,_,_,h=>bH|m+1,[],s,_=>by{have:0<3^m:=Nat.pos_of_ne_zero bK;simp only[ni,qF];exact pK}|m+1,t::tr,s,h=>by have:=YZ m tr s (by simp at h;omega);simp only[ni,qI];omega
theorem Y0:∀(m:Nat)(tr:bh)(p:Nat)(s t:St),aA tr<=m->tr[p]?=aQ s->s.dq=aT->t.dq=aS->ni m tr<ni m (tr.take p++[t])|0,[],_,_,_,_,e,_,_=>cT|0,_::_,_,_,_,h,_,_,_=>ga|m+1,[],_,_,_,_,e,_,_=>cT|m+1,u::tr,0,s,t,h,e,e1,e2=>by{simp at e;subst e;have:=Jg m tr;simp only[ni,GS,qF];rw[e1,e2];exact bQ}|m+1,u::tr,p+1,s,t,h,e,e1,e2=>by have:=Y0 m tr p s t (by simp at h;omega) mK e1 e2;simp only[ni,List.take_succ_cons,qI];omega
end Ar
namespace Ar
def X0(l:aW)(n:Nat):Bool:=(l.getD (n/64) 0).getLsbD (n%64)
theorem Y1{l:aW}{n:Nat}(h:n<64*aA l):n/64<aA l:=bH
theorem yD{l:aW}{n:Nat}(h:n<64*aA l):∃x,l[n/64]?=aQ x/\X0 l n=x.getLsbD (n%64):=by have a:=Y1 h;refine⟨l[n/64],bZ a,? _⟩;unfold X0;rw[uV,bZ a];rfl
theorem AJ{l:aW}{n:Nat}{x:BitVec 64}(h:l[n/64]?=aQ x):X0 l n=x.getLsbD (n%64):=by unfold X0;rw[uV,h];rfl
def eO(l:aW):aW:=l.map (~~~ ·)
def l8(l m:aW):aW:=List.zipWith (· &&& ·) l m
def tW(l m:aW):aW:=List.zipWith (· ||| ·) l m
def oh(k:Nat):aW:=List.replicate k 0
theorem yE{l:aW}{n:Nat}(h:n<64*aA l):X0 (eO l) n= ! X0 l n:=by obtain⟨x,b,a⟩:=yD h;rw[a,AJ (x:= ~~~x) (by simp[eO,b])];simp[show n%64<64 by omega]
theorem AL{l m:aW}{n:Nat}(h:n<64*aA l)(e:aA m=aA l):X0 (l8 l m) n=(X0 l n&&X0 m n):=by obtain⟨x,c,a⟩:=yD h;obtain⟨y,d,b⟩:=yD (l:=m) (n:=n) bH;rw[a,b,AJ (x:=x&&&y) (by simp[l8,List.getElem?_zipWith,c,d])];simp
theorem Jh{l m:aW}{n:Nat}(h:n<64*aA l)(e:aA m=aA l):X0 (tW l m) n=(X0 l n||X0 m n):=by obtain⟨x,c,a⟩:=yD h;obtain⟨y,d,b⟩:=yD (l:=m) (n:=n) bH;rw[a,b,AJ (x:=x|||y) (by simp[tW,List.getElem?_zipWith,c,d])];simp
theorem Ji(k n:Nat):X0 (oh k) n=aT:=by unfold X0 oh;rw[uV,zE];split<;>simp
theorem qj(l:aW):aA (eO l)=aA l:=by simp[eO]
theorem tX{l m:aW}(h:aA m=aA l):aA (l8 l m)=aA l:=by simp[l8,h]
theorem yF{l m:aW}(h:aA m=aA l):aA (tW l m)=aA l:=by simp[tW,h]
theorem qk(k:Nat):aA (oh k)=k:=by simp[oh]
def pat(i a:Nat):BitVec 64 :=
 if a<6 then(match a with
  | 0=>0xAAAAAAAAAAAAAAAA#64
  | 1=>0xCCCCCCCCCCCCCCCC#64
  | 2=>0xF0F0F0F0F0F0F0F0#64
  | 3=>0xFF00FF00FF00FF00#64
  | 4=>0xFFFF0000FFFF0000#64
  | _=>0xFFFFFFFF00000000#64)
 else if i.testBit (a-6)=aS then BitVec.allOnes 64 else 0
theorem jP9:∀a,a<6->∀b,b<64->(pat 0 a).getLsbD b=b.testBit a:=bJ
theorem Jj(n a:Nat):(pat (n/64) a).getLsbD (n%64)=n.testBit a:=by
 by_cases h:a<6;have b:=jP9 a h (n%64) bH;have c:pat (n/64) a=pat 0 a:=by unfold pat;rw[bO h,bO h]
 rw[c,b];rw[show(64:Nat)=2^6 from rfl,Nat.testBit_mod_two_pow];simp[h];unfold pat;rw[bL h];have b:(n/64).testBit (a-6)=n.testBit a:=by rw[show(64:Nat)=2^6 from rfl,Nat.testBit_div_two_pow];exact mJ
 rw[b];cases n.testBit a with|true=>(show(BitVec.allOnes 64).getLsbD (n%64)=aS;rw[BitVec.getLsbD_allOnes];exact ig bH)|false=>simp
def V5(k a:Nat)(yes:Bool):aW:=(List.range k).map (fun i=>if yes=aS then pat i a else ~~~pat i a)
theorem tY(k a:Nat)(yes:Bool):aA (V5 k a yes)=k:=by simp[V5]
theorem Pn{k a n:Nat}{yes:Bool}(h:n<64*k):X0 (V5 k a yes) n=(n.testBit a==yes):=by have b:n/64<k:=bH;rw[AJ (x:=if yes=aS then pat (n/64) a else ~~~pat (n/64) a) (by simp[V5,List.getElem?_map,List.getElem?_range b])];cases yes with|true=>(simp only[if_true];rw[Jj];simp)|false=>simp only[Bool.false_eq_true,if_false];rw[BitVec.getLsbD_not,Jj];simp[show n%64<64 by omega]
theorem jC7{l:aW}:(∀x∈l,x=0)↔∀n,n<64*aA l->X0 l n=aT:=by constructor;intro h n f;obtain⟨x,a,c⟩:=yD f;rw[c,h x (cm a)];simp;intro h x g;obtain⟨i,d,e⟩:=Cu g;apply BitVec.eq_of_getLsbD_eq;intro b _;have a:=h (64*i+b) bH;rw[AJ (x:=x) (by rw[show(64*i+b)/64=i by omega,bZ d,e]),show(64*i+b)%64=b by omega]at a;rw[a];simp
def wg(p:Nat->Bool):Nat->Nat
 | 0=>0
 | n+1=>wg p n+(if p n=aS then 1 else 0)
theorem Za(p q:Nat->Bool):∀n,(∀x,x<n->q x=aS->p x=aS)->wg q n<=wg p n|0,_=>cj _|n+1,h=>by have b:=Za p q n (λx _=>h x bH);have a:=h n bH;simp only[wg];exact ZkM
theorem Zb(p q:Nat->Bool):∀n,(∀x,x<n->q x=aS->p x=aS)->(∃x,x<n/\p x=aS/\q x=aT)->wg q n<wg p n|0,_,h=>by{obtain⟨x,c,_⟩:=h;omega}|n+1,h,c=>by obtain⟨x,_,b,a⟩:=c;have f:=Za p q n (λx c=>h x bH);simp only[wg];by_cases e:x=n;subst e;simp[b,a];omega;have d:=Zb p q n (λx c=>h x bH) ⟨x,bH,b,a⟩;have g:=h n bH;exact ZkM
end Ar
namespace Ar
def U6(a:Int):Int:=if a=0 then 0 else 3-a
def fi(a b:Int):Int:=if a=2\/b=2 then 2 else if a=1/\b=1 then 1 else 0
def iv(a b:Int):Int:=U6 (fi (U6 a) (U6 b))
def mq(w:aU)(l:aV):Int :=
 if w=fI then U6 (l.getD 0 0) else if w=n8 then iv (U6 (l.getD 0 0)) (l.getD 1 0)
 else if w=gd then iv (fi (l.getD 0 0) (l.getD 1 0)) (fi (U6 (l.getD 0 0)) (U6 (l.getD 1 0)))
 else if w=iF then l.foldl fi 1 else l.foldl iv 2
mutual
def cg(σ:Nd->Int):Nd->Int
 | .mk k w v ps=>if k=2 then σ (.mk k w v ps) else if k=0 then(if w.toList=jm then 1 else 2) else mq w.toList (o8 σ ps)
def o8(σ:Nd->Int):List Nd->List Int
 | []=>[]
 | p::ps=>cg σ p::o8 σ ps
end
theorem Jk(σ:Nd->Int)(ps:aY):o8 σ ps=ps.map (cg σ):=by induction ps with|nil=>(rfl)|cons p ps a=>simp[o8,a]
def gB(t:Int)(b:Bool):Prop:=(t=0\/t=1\/t=2)/\(t=1->b=aS)/\(t=2->b=aT)
theorem yG{t:Int}{b:Bool}(h:gB t b):gB (U6 t) (! b):=by obtain⟨rfl|rfl|rfl,_,_⟩:=h<;>simp_all[gB,U6]
theorem Jl{t s:Int}{b c:Bool}(h:gB t b)(k:gB s c):gB (fi t s) (b&&c):=by obtain⟨rfl|rfl|rfl,_,_⟩:=h<;>obtain⟨rfl|rfl|rfl,_,_⟩:=k<;>simp_all[gB,fi]
theorem Po{t s:Int}{b c:Bool}(h:gB t b)(k:gB s c):gB (iv t s) (b||c):=by have:=yG (Jl (yG h) (yG k));simpa[iv]using this
inductive AM{α β:Type}(R:α -> β->Prop):List α->List β->Prop
 | nil:AM R [] []
 | cons {a:α} {b:β} {l:List α} {m:List β} (h:R a b) (t:AM R l m):AM R (a::l) (b::m)
theorem jl7{l:aV}{bs:List Bool}:∀{t:Int}{b:Bool},gB t b->AM gB l bs->gB (l.foldl fi t) (b&&bs.all id):=by induction l generalizing bs with|nil=>(intro t b h a;cases a;simpa using h)|cons x l c=>intro t b h a;cases a with|cons d a=>rename_i y ys;have:=c (Jl h d) a;simpa[Bool.and_assoc]using this
theorem jl8{l:aV}{bs:List Bool}:∀{t:Int}{b:Bool},gB t b->AM gB l bs->gB (l.foldl iv t) (b||bs.any id):=by induction l generalizing bs with|nil=>(intro t b h a;cases a;simpa using h)|cons x l c=>intro t b h a;cases a with|cons d a=>rename_i y ys;have:=c (Po h d) a;simpa[Bool.or_assoc]using this
theorem Zc{σ:Nd->Int}{α:Nd->Bool}:∀{ps:aY},(∀p∈ps,gB (cg σ p) (cD α p))->AM gB (ps.map (cg σ)) (ps.map (cD α))|[],_=>.nil|p::ps,h=>.cons (h p bK) (Zc (λq a=>h q (by simp[a])))
theorem yH{a:Int}(h:a=1\/a=2):U6 a=1\/U6 a=2:=by rcases h with rfl|rfl<;>decide
theorem Jm{a b:Int}(h:a=1\/a=2)(k:b=1\/b=2):fi a b=1\/fi a b=2:=by rcases h with rfl|rfl<;>rcases k with rfl|rfl<;>decide
theorem Pp{a b:Int}(h:a=1\/a=2)(k:b=1\/b=2):iv a b=1\/iv a b=2:=yH (Jm (yH h) (yH k))
theorem Pq{f:Int->Int->Int}(c:∀a b,(a=1\/a=2)->(b=1\/b=2)->f a b=1\/f a b=2):∀{l:aV}{t:Int},(t=1\/t=2)->(∀x∈l,x=1\/x=2)->l.foldl f t=1\/l.foldl f t=2|[],_,h,_=>h|x::l,t,h,hl=>Pq c (l:=l) (c t x h (hl x bK)) (λy hy=>hl y GH)
theorem Ps{σ:Nd->Int}{α:Nd->Bool}{f:Nd}(r:ee f):(∀x∈Z1 aT f,gB (σ x) (α x))->gB (cg σ f) (cD α f):=by induction r with|truth a=>(intro _;rcases a with a|a;simp[cg,cD,a,gB];have e:¬jS=jm:=bJ;simp[cg,cD,a,gB,e])| @neg w p a _ k=>(intro h;have:=yG (k λx hx=>h x sX);simpa[cg,o8,cD,yr,mq,con,a]using this)| @imp w p q a _ _ i j=>(intro h;have d:=i λx hx=>h x sX;have c:=j λx hx=>h x sX;rcases a with a|a;have g:¬n8=fI:=bJ;have:=Po (yG d) c;simpa[cg,o8,cD,yr,mq,con,a,g,show[61,62]=n8 from rfl]using this;have g:¬gd=fI:=bJ;have l:¬gd=n8:=bJ;have:=Po (Jl d c) (Jl (yG d) (yG c));have o:(cD α p==cD α q)=((cD α p&&cD α q)||(!(cD α p)&& !(cD α q))):=by{cases cD α p<;>cases cD α q<;>rfl};simp only[cg,o8,cD,yr,mq,con,a];rw[if_neg bJ,if_neg bJ,if_neg g,if_neg l,if_pos trivial,if_neg bJ,if_neg bJ,if_neg g,if_neg (show ¬gd=[61,62]from l),if_pos trivial];simp only[List.getD_cons_zero,List.getD_cons_succ,o];exact dC)| @many w ps a _ k=>(intro h;have n:=Zc (σ:=σ) (α:=α) (ps:=ps) λp m=>k p m λx hx=>h x (by simp only[Z1];exact List.mem_append_right _ (Z9.2 ⟨p,m,hx⟩));simp only[cg,Jk,cD,OA];rw[if_neg bJ,if_neg bJ,if_neg bJ,if_neg bJ];rcases a with a|a;have e:=jl7 (t:=1) (b:=aS) (by simp[gB]) n;rw[a];simp only[mq,con];rw[if_neg bJ,if_neg bJ,if_neg bJ,if_pos trivial,if_neg bJ,if_neg bJ,if_neg bJ,if_neg bJ];exact mK;have e:=jl8 (t:=2) (b:=aT) (by simp[gB]) n;rw[a];simp only[mq,con];rw[if_neg bJ,if_neg bJ,if_neg bJ,if_neg bJ,if_neg bJ,if_neg bJ,if_neg bJ,if_pos trivial];exact mK)|two a s hb=>(intro h;simp only[cg,cD,if_pos];exact h _ zw)|le a s hb d c=>intro h;simp only[cg,cD,if_pos];exact h _ zw
theorem jl9{σ:Nd->Int}{f:Nd}(o:ee f):(∀x∈Z1 aT f,σ x=1\/σ x=2)->cg σ f=1\/cg σ f=2:=by induction o with| @truth w c=>(intro _;simp only[cg];rw[if_neg bJ,if_pos trivial];split<;>simp)| @neg w p c _ k=>(intro h;have:=yH (k λx hx=>h x sX);simpa[cg,o8,mq,c]using this)| @imp w p q c _ _ g i=>(intro h;have e:=g λx hx=>h x sX;have d:=i λx hx=>h x sX;rcases c with c|c;have j:¬n8=fI:=bJ;have:=Pp (yH e) d;simpa[cg,o8,mq,c,j]using this;have j:¬gd=fI:=bJ;have n:¬gd=n8:=bJ;have:=Pp (Jm e d) (Jm (yH e) (yH d));simpa[cg,o8,mq,c,j,n]using this)| @many w ps c _ k=>(intro h;have m:∀x∈ps.map (cg σ),x=1\/x=2:=by{intro x hx;obtain⟨p,l,rfl⟩:=List.mem_map.1 hx;exact k p l λy r=>h y (by simp only[Z1];exact List.mem_append_right _ (Z9.2 ⟨p,l,r⟩))};simp only[cg,Jk];rw[if_neg bJ,if_neg bJ];rcases c with c|c;rw[c];simp only[mq];rw[if_neg bJ,if_neg bJ,if_neg bJ,if_pos trivial];exact Pq (λa b=>Jm) (aO rfl) m;rw[c];simp only[mq];rw[if_neg bJ,if_neg bJ,if_neg bJ,if_neg bJ];exact Pq (λa b=>Pp) (aP rfl) m)|two c s hb=>(intro h;simp only[cg,if_pos];exact h _ zw)|le c s hb e d=>intro h;simp only[cg,if_pos];exact h _ zw
end Ar
namespace Ar
def CH(u:Nat->Int)(c:List (bm)):Prop:=∃ a∈c,dI a u
theorem wj{l m:bm}{u:Nat->Int}:dI (l++m) u↔dI l u/\dI m u:=⟨λh=>⟨λe a=>h e (s8 _ a),λe a=>h e (CM _ a)⟩,λh e a=>(da.1 a).elim (h.1 e) (h.2 e)⟩
def nj(z i:Nat):Nd->bm
 | .mk k _ v _=>if k=4 then [⟨i,z,v⟩,⟨z,i,-v⟩] else []
def eP(z:Nat):Nat->aY->bm
 | _,[]=>[]
 | i,x::xs=>nj z i x++eP z (i+1) xs
theorem Zd(z:Nat)(x:Nd):∀(xs:aY)(i:Nat),eP z i (xs++[x])=eP z i xs++nj z (i+aA xs) x|[],i=>by{simp[eP]}|y::ys,i=>by simp[eP,Zd z x ys (i+1)];exact mJ
theorem Pu{z:Nat}{u:Nat->Int}:∀{xs:aY}{i:Nat},dI (eP z i xs) u↔∀(j:Nat)(w:ByteArray)(n:Int)(ps:aY),xs[j]?=aQ (.mk 4 w n ps)->u (i+j)-u z=n|[],i=>by{simp[eP,dI]}|.mk k w v ps::xs,i=>by rw[eP,wj,Pu (xs:=xs)];constructor;rintro⟨d,f⟩j w' n qs hj;(cases j with|zero=>(simp at hj;obtain⟨rfl,rfl,rfl,rfl⟩:=hj;have a:=d ⟨i,z,v⟩ (by simp[nj]);have b:=d ⟨z,i,-v⟩ (by simp[nj]);simp at a b⊢;omega)|succ j=>have:=f j w' n qs MK;rw[show i+(j+1)=i+1+j by omega];exact this);intro h;refine⟨? _,λj w' n qs hj=>? _⟩;intro e c;simp only[nj]at c;split at c;rename_i g;subst g;have:=h 0 w v ps bK;simp at c this;rcases c with rfl|rfl<;>(simp;omega);simp at c;have:=h (j+1) w' n qs MK;rw[show i+(j+1)=i+1+j by omega]at this;exact dC
def nk(a b:Nat)(w:aU)(c:Int)(d:Bool):bm :=
 if w=[61] then(if d=aS then [⟨a,b,0⟩,⟨b,a,0⟩] else []) else if d=aS then [⟨a,b,if w=[60] then -1 else c⟩] else [⟨b,a,-(if w=[60] then -1 else c)-1⟩]
def np(a b:Nat)(w:aU)(c:Bool):List (List (bm)):=if w=[61] then(if c=aS then [] else [[[⟨a,b,-1⟩],[⟨b,a,-1⟩]]]) else []
theorem Ze{a b:Nat}{w:aU}{c:Int}{e:Bool}{u:Nat->Int}(i:w=[60,61]->c=0):(dI (nk a b w c e) u/\∀d∈np a b w e,CH u d)↔gI w (u a) (u b) c=e:=by
 by_cases g:w=[61];subst g;cases e with|true=>(simp only[nk,np,gI,bO,dI,oH,List.not_mem_nil,or_false,forall_eq_or_imp,forall_eq,false_implies,implies_true,and_true,Cy];omega)|false=>simp only[nk,np,gI,bO,dI,CH];simp;omega
 by_cases f:w=[60];subst f;cases e<;>simp[nk,np,gI,dI]<;>omega;by_cases h:w=[60,61];subst h;have:=i rfl;subst this;cases e<;>simp[nk,np,gI,dI]<;>omega;cases e<;>simp[nk,np,gI,dI,g,f,h]<;>omega
theorem Zf(w:aU)(a b c z:Int):gI w (a-z) (b-z) c=gI w a b c:=Zhk
noncomputable def oi(T:aY)(x:Nd)(c:Bool):bm :=
 match x with
 | .mk _ w _ (a::b::r)=>nk (idx T a) (idx T b) w.toList (eB r) c
 | _=>[]
noncomputable def o9(T:aY)(x:Nd)(c:Bool):List (List (bm)) :=
 match x with
 | .mk _ w _ (a::b::_)=>np (idx T a) (idx T b) w.toList c
 | _=>[]
noncomputable def valOf(T:aY)(u:Nat->Int):Nd->Int:=fun x=>u (idx T x)-u (aA T)
theorem Jn{T:aY}{x:Nd}{a:Bool}{u:Nat->Int}(f:fe x):(dI (oi T x a) u/\∀d∈o9 T x a,CH u d)↔iY (valOf T u) x=a:=by cases f with|two b c hb=>(simp only[oi,o9,iY,valOf,Zf];exact Ze (λ_=>rfl))|le b c hb h g=>simp only[oi,o9,iY,valOf,Zf];exact Ze (λe=>by rw[b]at e;exact Cs)
noncomputable def nr(T:aY)(i k:Nat)(ps qs:aY):List (bm) :=
 [⟨i,k,0⟩,⟨k,i,0⟩]::(ps.zip qs).flatMap (fun p=>[[⟨idx T p.1,idx T p.2,-1⟩],[⟨idx T p.2,idx T p.1,-1⟩]])
theorem Pv{T:aY}{i k:Nat}{u:Nat->Int}:∀{ps qs:aY},aA ps=aA qs->(CH u (nr T i k ps qs)↔(ps.map (valOf T u)=qs.map (valOf T u)->u i=u k)):=by
 intro ps qs hl;have d:CH u ((ps.zip qs).flatMap (λp=>[[⟨idx T p.1,idx T p.2,-1⟩],[⟨idx T p.2,idx T p.1,-1⟩]]))↔¬ps.map (valOf T u)=qs.map (valOf T u):=by induction ps generalizing qs with|nil=>(cases qs with|nil=>(simp[CH])|cons _ _=>simp at hl)|cons p ps c=>cases qs with|nil=>(simp at hl)|cons q qs=>have c:=c (qs:=qs) UE;unfold CH at c⊢;rw[List.zip_cons_cons,List.flatMap_cons,List.map_cons,List.map_cons,List.cons.injEq,Classical.not_and_iff_not_or_not,<-c];constructor;rintro⟨b,a,hs⟩;rcases List.mem_append.1 a with a|a;left;intro e;simp[valOf]at e;simp at a;rcases a with rfl|rfl;exact ZmK;exact ZmK;exact aP ⟨b,a,hs⟩;rintro(h|⟨b,a,hs⟩);have l:¬u (idx T p)=u (idx T q):=λe=>h (by simp[valOf,e]);by_cases f:u (idx T p)<u (idx T q);refine⟨_,List.mem_append_left _ (List.mem_cons_self),λe he=>? _⟩;exact ZmO;refine⟨_,List.mem_append_left _ (List.mem_cons_of_mem _ (List.mem_singleton.2 rfl)),λe he=>? _⟩;exact ZmO;exact⟨b,List.mem_append_right _ a,hs⟩
 unfold CH at d⊢;unfold nr;constructor;rintro⟨b,a,hs⟩he;rcases oH.1 a with rfl|a;have j:=hs _ uR;have g:=hs _ (kJ _ (tg.2 rfl));simp at j g;omega;exact absurd he (d.1 ⟨b,a,hs⟩);intro h;by_cases he:ps.map (valOf T u)=qs.map (valOf T u);have m:=h he;refine⟨_,uR,λe a=>? _⟩;simp at a;rcases a with rfl|rfl<;>(simp;omega);obtain⟨b,a,hs⟩:=d.2 he;exact⟨b,kJ _ a,hs⟩
noncomputable def mr(T:aY)(i k:Nat):Nd->Nd->List (List (bm))
 | .mk kx wx _ ps,.mk ky wy _ qs=>if kx=3/\ky=3/\wx=wy/\ps≠[] then [nr T i k ps qs] else []
noncomputable def kv(T:aY)(i:Nat)(x:Nd):Nat->aY->List (List (bm))
 | _,[]=>[]
 | k,y::ys=>mr T i k x y++kv T i x (k+1) ys
theorem Zg(T:aY)(i:Nat)(x y:Nd):∀(ys:aY)(k:Nat),kv T i x k (ys++[y])=kv T i x k ys++mr T i (k+aA ys) x y|[],k=>by{simp[kv]}|z::ys,k=>by simp[kv,Zg T i x y ys (k+1)];exact mJ
noncomputable def fN(T:aY):Nat->List (List (bm))
 | 0=>[]
 | n+1=>fN T n++(match T[n]? with|some x=>kv T n x 0 (T.take n)|none=>[])
theorem Pw{T:aY}{i:Nat}{x:Nd}{c:List (bm)}:∀{ys:aY}{k:Nat},c∈kv T i x k ys↔∃j y,ys[j]?=aQ y/\c∈mr T i (k+j) x y|[],k=>by{simp[kv]}|y::ys,k=>by rw[kv,da,Pw (ys:=ys)];constructor;rintro(h|⟨j,z,hj,h⟩);exact⟨0,y,bK,pJ⟩;exact⟨j+1,z,MK,by rw[show k+(j+1)=k+1+j by omega];exact h⟩;rintro⟨j,z,hj,h⟩;cases j with|zero=>(simp at hj;subst hj;exact aO pJ)|succ j=>exact aP ⟨j,z,MK,by rw[show k+1+j=k+(j+1)by omega];exact h⟩
theorem Ek{T:aY}{c:List (bm)}:∀{n:Nat},c∈fN T n↔∃i k x y,i<n/\k<i/\T[i]?=aQ x/\T[k]?=aQ y/\c∈mr T i k x y|0=>by{simp[fN]}|n+1=>by rw[fN,da,Ek (n:=n)];constructor;rintro(⟨i,k,x,y,l,h⟩|h);exact⟨i,k,x,y,bH,h⟩;split at h;rename_i x d;obtain⟨j,y,b,h⟩:=Pw.1 h;have a:j<n:=by{by_cases e:j<n;exact e;rw[jl lM]at b;exact absurd b bK};rw[Cz a]at b;exact⟨n,j,x,y,bH,a,d,b,pJ⟩;exact ga;rintro⟨i,k,x,y,l,f,d,g,h⟩;by_cases e:i=n;subst e;right;rw[d];exact Pw.2 ⟨k,y,by rw[Cz f];exact g,pJ⟩;exact aO ⟨i,k,x,y,bH,f,d,g,h⟩
def wk(T:aY):Prop:=∀ w ps qs,.mk 3 w 0 ps∈T->.mk 3 w 0 qs∈T->aA ps=aA qs
theorem Zh{T:aY}{u:Nat->Int}(t:T.Nodup)(d:wk T)(f:∀x∈T,Y2 x):(∀c∈fN T (aA T),CH u c)↔∀w ps qs,.mk 3 w 0 ps∈T->.mk 3 w 0 qs∈T->ps.map (valOf T u)=qs.map (valOf T u)->valOf T u (.mk 3 w 0 ps)=valOf T u (.mk 3 w 0 qs):=by
 constructor;intro h w ps qs r q m;have l:=d w ps qs r q;by_cases p:ps=[];subst p;have:qs=[]:=s6 (by simpa using l.symm);rw[this];by_cases z:idx T (.mk 3 w 0 ps)=idx T (.mk 3 w 0 qs);rw[Ap r q z];have g:=k8 r;have j:=k8 q;have D:idx T (.mk 3 w 0 ps)<aA T:=by by_cases e:idx T (.mk 3 w 0 ps)<aA T;exact e;rw[jl bH]at g;exact absurd g bK
 have B:idx T (.mk 3 w 0 qs)<aA T:=by by_cases e:idx T (.mk 3 w 0 qs)<aA T;exact e;rw[jl bH]at j;exact absurd j bK
 by_cases n:idx T (.mk 3 w 0 qs)<idx T (.mk 3 w 0 ps);have:=h (nr T (idx T (.mk 3 w 0 ps)) (idx T (.mk 3 w 0 qs)) ps qs) (Ek.2 ⟨_,_,_,_,D,n,g,j,by simp[mr,p]⟩);have:=(Pv l).1 this m;simp only[valOf];omega;have s:qs≠[]:=λe=>p (s6 (by rw[l,e];rfl));have:=h (nr T (idx T (.mk 3 w 0 qs)) (idx T (.mk 3 w 0 ps)) qs ps) (Ek.2 ⟨_,_,_,_,B,bH,j,g,by simp[mr,s]⟩);have:=(Pv l.symm).1 this m.symm;simp only[valOf];omega;intro h c b;obtain⟨i,k,x,y,z,L,A,v,b⟩:=Ek.1 b;have mx:=cm A;have o:=cm v;have ix:=vQ t A;have F:=vQ t v;cases x with|mk J M C ps=>cases y with|mk K I H qs=>simp only[mr]at b;split at b;rename_i a;obtain⟨rfl,rfl,rfl,_⟩:=a;have E:C=0:=by{cases f _ mx;rfl};have G:H=0:=by{cases f _ o;rfl};subst E G;rw[tg]at b;subst b;refine(Pv (d _ _ _ mx o)).2 λm=>? _;have:=h _ _ _ mx o m;simp only[valOf,ix,F]at this;omega;simp at b
noncomputable def gL(T:aY)(D:List (Nd × Bool)):bm:=eP (aA T) 0 T++D.flatMap (fun d=>oi T d.1 d.2)
noncomputable def iw(T:aY)(D:List (Nd × Bool)):List (List (bm)):=D.flatMap (fun d=>o9 T d.1 d.2)
def AN(T:aY)(D:List (Nd × Bool))(v:Nd->Int):Prop:=Good T v/\∀ d∈D,iY v d.1=d.2
theorem Jo{α:Type}{f:α->bm}{u:Nat->Int}:∀{l:List α},dI (l.flatMap f) u↔∀x∈l,dI (f x) u|[]=>by{simp[dI]}|x::l=>by rw[CD,wj,Jo (l:=l)];simp
theorem jB8{T:aY}{u:Nat->Int}(h:dI (eP (aA T) 0 T) u):∀n,.mk 4 ByteArray.empty n []∈T->valOf T u (.mk 4 ByteArray.empty n [])=n:=by intro n a;have:=Pu.1 h (idx T (.mk 4 ByteArray.empty n [])) _ n _ (k8 a);simpa[valOf]using this
theorem Zi{T:aY}{v:Nd->Int}(g:Good T v)(a:∀x∈T,Y2 x)(u:Nat->Int)(d:∀i x,T[i]?=aQ x->u i=v x)(f:u (aA T)=0):dI (eP (aA T) 0 T) u:=by
 refine Pu.2 λj w n ps c=>? _;have b:=cm c;have e:(Nd.mk 4 w n ps)=.mk 4 ByteArray.empty n []:=by cases a _ b;rfl
 rw[e]at c b;have:=d j _ c;rw[pM,f,this,g.num n b];omega
noncomputable def rh(T:aY)(v:Nd->Int):Nat->Int:=fun i=>match T[i]? with|some x=>v x|none=>0
theorem En{T:aY}{v:Nd->Int}{x:Nd}(a:x∈T):valOf T (rh T v) x=v x:=by simp only[valOf,rh,k8 a];rw[jl (cj _)];simp
theorem Px{T:aY}{v:Nd->Int}{x:Nd}(b:∀p∈(J6 x).take 2,p∈T):iY (valOf T (rh T v)) x=iY v x:=OC λp a=>En (b p a)
theorem qS0{T:aY}{D:List (Nd×Bool)}(q:T.Nodup)(g:wk T)(b:∀x∈T,Y2 x)(k:∀x∈T,∀p∈J6 x,p∈T)(h:∀d∈D,fe d.1/\∀p∈(J6 d.1).take 2,p∈T):(∃u,dI (gL T D) u/\∀c∈iw T D++fN T (aA T),CH u c)↔∃v,AN T D v:=by constructor;rintro⟨u,j,i⟩;unfold gL at j;rw[wj,Jo]at j;refine⟨valOf T u,⟨jB8 j.1,(Zh q g b).1 λc k=>i c (CM _ k)⟩,λd hd=>? _⟩;refine(Jn (h d hd).1).1 ⟨j.2 d hd,λe n=>i e (s8 _ ? _)⟩;exact uW.2 ⟨d,hd,n⟩;rintro⟨v,o,r⟩;refine⟨rh T v,? _,? _⟩;unfold gL;rw[wj,Jo];refine⟨Zi o b _ (λ_ x t=>by simp[rh,t]) (by simp[rh]),λd hd=>? _⟩;exact((Jn (h d hd).1).2 ((Px (h d hd).2).z (r d hd))).1;intro c f;rcases da.1 f with f|f;obtain⟨d,hd,f⟩:=uW.1 f;exact((Jn (h d hd).1).2 ((Px (h d hd).2).z (r d hd))).2 c f;refine(Zh q g b).2 (λw ps qs m l n=>? _) c f;rw[En m,En l];refine o.fn w ps qs m l ? _;have y:ps.map (valOf T (rh T v))=ps.map v:=GY λp a=>En (k _ m p a);have s:qs.map (valOf T (rh T v))=qs.map v:=GY λp a=>En (k _ l p a);rw[<-y,<-s];exact n
theorem qG7{T:aY}{D:List (Nd×Bool)}{v:Nd->Int}(a:∀x∈T,Y2 x)(b:∀d∈D,fe d.1/\∀p∈(J6 d.1).take 2,p∈T)(h:AN T D v):dI (gL T D) (rh T v):=by unfold gL;rw[wj,Jo];refine⟨Zi h.1 a _ (λ_ x c=>by simp[rh,c]) (by simp[rh]),λd hd=>? _⟩;exact((Jn (b d hd).1).2 ((Px (b d hd).2).z (h.2 d hd))).1
end Ar
namespace Ar
def wm:Option Bool->Int
 | some true=>1
 | some false=>2
 | none=>0
noncomputable def sg(A:aY)(bs:List Bool)(x:Nd):Int:=wm bs[idx A x]?
def O7(n:Nat)(bs:List Bool):aV:=bs.map (fun b=>if b then 1 else 2)++List.replicate (n-aA bs) 0
def Pt(T A L:aY)(bs:List Bool):Prop:=∃ v,AN T (A.zip bs) v/\∀ f∈L,cD (iY v) f=aS
structure gX(T A L:aY):Prop where
 tn:T.Nodup
 an:A.Nodup
 ok:∀ f∈L,ee f
 tm:∀ x,x∈T↔∃ f∈L,x∈Z1 aS f
 am:∀ x,x∈A↔∃ f∈L,x∈Z1 aT f
 ar:wk T
section
variable{T A L:aY}
theorem gX.tok(h:gX T A L):∀x∈T,Y2 x:=by intro x a;obtain⟨f,b,a⟩:=(h.tm x).1 a;exact(vN (h.ok f b).ok).1 x a
theorem gX.Py(h:gX T A L):∀x∈A,fe x:=by intro x a;obtain⟨f,b,a⟩:=(h.am x).1 a;exact(vN (h.ok f b).ok).2 x a
theorem gX.Pz(h:gX T A L):∀x∈T,∀p∈J6 x,p∈T:=by intro x a p c;obtain⟨f,b,a⟩:=(h.tm x).1 a;exact(h.tm p).2 ⟨f,b,XI (h.ok f b).ok x a p c⟩
theorem gX.Zj(h:gX T A L):∀x∈A,∀p∈(J6 x).take 2,p∈T:=by intro x a p c;obtain⟨f,b,a⟩:=(h.am x).1 a;exact(h.tm p).2 ⟨f,b,XJ (h.ok f b).ok x a p c⟩
theorem gX.Jp(h:gX T A L)(bs:List Bool):∀d∈A.zip bs,fe d.1/\∀p∈(J6 d.1).take 2,p∈T:=by intro d hd;have c:d.1∈A:=(List.of_mem_zip (a:=d.1) (b:=d.2) hd).1;exact⟨h.Py _ c,h.Zj _ c⟩
theorem jB9{bs:List Bool}{v:Nd->Int}(c:AN T (A.zip bs) v){x:Nd}(e:x∈A):gB (sg A bs x) (iY v x):=by unfold sg;have d:=k8 e;match hb:bs[idx A x]? with|none=>{exact⟨aO rfl,UO,UO⟩}|some b=>have a:(x,b)∈A.zip bs:=cm (i:=idx A x) (by rw[List.getElem?_zip_eq_some];exact⟨d,hb⟩);have:=c.2 _ a;cases b;exact⟨aP (aP rfl),UO,λ_=>this⟩;exact⟨aP (aO rfl),λ_=>this,UO⟩
theorem Zk(h:gX T A L){bs:List Bool}{v:Nd->Int}(b:AN T (A.zip bs) v){f:Nd}(a:f∈L):gB (cg (sg A bs) f) (cD (iY v) f):=Ps (h.ok f a) λx c=>jB9 b ((h.am x).2 ⟨f,a,c⟩)
theorem jC0(h:gX T A L){bs:List Bool}{f:Nd}(a:f∈L)(d:cg (sg A bs) f=2):¬Pt T A L bs:=by rintro⟨_,c,e⟩;have b:=(Zk h c a).2.2 d;rw[e f a]at b;exact absurd b bJ
theorem jP2(h:gX T A L){bs:List Bool}(d:∀f∈L,cg (sg A bs) f=1):Pt T A L bs↔∃u,dI (gL T (A.zip bs)) u/\∀c∈iw T (A.zip bs)++fN T (aA T),CH u c:=by rw[qS0 h.tn h.ar h.tok h.Pz (h.Jp bs)];constructor;rintro⟨v,a,_⟩;exact⟨v,a⟩;rintro⟨v,a⟩;exact⟨v,a,λf b=>(Zk h a b).2.1 (d f b)⟩
theorem jZ2(h:gX T A L){bs:List Bool}(a:Pt T A L bs):∃u,dI (gL T (A.zip bs)) u:=by obtain⟨_,b,_⟩:=a;exact⟨_,qG7 h.tok (h.Jp bs) b⟩
theorem jC1(h:gX T A L){bs:List Bool}(hb:aA bs=aA A){f:Nd}(c:f∈L):cg (sg A bs) f=1\/cg (sg A bs) f=2:=by
 refine jl9 (h.ok f c) λx b=>? _;have b:=(h.am x).2 ⟨f,c,b⟩;have d:=k8 b;have a:idx A x<aA bs:=by rw[hb];by_cases e:idx A x<aA A;exact e;rw[jl bH]at d;exact absurd d bK
 unfold sg;rw[bZ a];cases bs[idx A x]<;>simp[wm]
theorem Zl(h:gX T A L){bs:List Bool}{f:Nd}(a:f∈L):cg (sg A bs) f=0\/cg (sg A bs) f=1\/cg (sg A bs) f=2:=by
 have c:∀x∈Z1 aT f,gB (sg A bs x) (decide (sg A bs x=1)):=by intro x _;have b:sg A bs x=0\/sg A bs x=1\/sg A bs x=2:=by{unfold sg wm;split<;>simp};refine⟨b,bK,λe=>uL⟩
 exact(Ps (h.ok f a) c).1
theorem Jq{bs:List Bool}{x:Nd}{b:Bool}(a:A[aA bs]?=aQ x):A.zip (bs++[b])=A.zip bs++[(x,b)]:=by
 have d:aA bs<aA A:=(ck.1 a).1;conv=>lhs;rw[<-jB (aA bs) A]
 conv=>rhs;rw[<-jB (aA bs) A]
 have e:A.drop (aA bs)=x::A.drop (aA bs+1):=by rw[uT d,(ck.1 a).2]
 rw[List.zip_append lM,e];have f:(A.take (aA bs)++x::A.drop (aA bs+1)).zip bs=(A.take (aA bs)).zip bs:=by have c:=List.zip_append (l₁:=A.take (aA bs)) (r₁:=x::A.drop (aA bs+1)) (l₂:=bs) (r₂:=[]) lM;simpa using c
 rw[f];simp
theorem jC2{bs:List Bool}{x:Nd}(a:A[aA bs]?=aQ x):Pt T A L bs↔Pt T A L (bs++[aS])\/Pt T A L (bs++[aT]):=by unfold Pt;rw[Jq a,Jq a];constructor;rintro⟨v,hv,ht⟩;by_cases e:iY v x=aS;refine aO ⟨v,⟨hv.1,λd hd=>? _⟩,ht⟩;rcases da.1 hd with hd|hd;exact hv.2 d hd;simp at hd;subst hd;exact e;refine aP ⟨v,⟨hv.1,λd hd=>? _⟩,ht⟩;rcases da.1 hd with hd|hd;exact hv.2 d hd;simp at hd;subst hd;exact mK;rintro(⟨v,hv,ht⟩|⟨v,hv,ht⟩);exact ZiH;exact ZiH
theorem jZ3(h:gX T A L):Pt T A L []↔Sat L:=by rw[jO9 h.tm (λf c=>(h.ok f c).ok)];unfold Pt AN;constructor;rintro⟨v,a,b⟩;exact⟨v,a.1,b⟩;rintro⟨v,a,b⟩;exact⟨v,⟨a,bK⟩,b⟩
theorem qS1{bs:List Bool}{x:Nd}{b:Bool}(a:A[aA bs]?=aQ x):gL T (A.zip (bs++[b]))=gL T (A.zip bs)++oi T x b:=by unfold gL;rw[Jq a];simp
theorem qw6{bs:List Bool}{x:Nd}{b:Bool}(a:A[aA bs]?=aQ x):iw T (A.zip (bs++[b]))=iw T (A.zip bs)++o9 T x b:=by unfold iw;rw[Jq a];simp
end
/-! ### Choosing -/
def wo(l:bm)(cs:List (List (bm))):Prop:=∃ u,dI l u/\∀ c∈cs,CH u c
open Classical in
noncomputable def AO(l:bm)(cs:List (List (bm))):Nat:=cs.countP (fun c=>decide (¬∃ a∈c,∀ e∈a,e∈l))
theorem Zm{α:Type}{p q:α->Bool}:∀{l:List α},(∀x∈l,p x=aS->q x=aS)->(∃x∈l,p x=aT/\q x=aS)->l.countP p<l.countP q|[],_,h=>by{obtain⟨x,a,_⟩:=h;simp at a}|x::l,h,a=>by rw[List.countP_cons,List.countP_cons];have e:l.countP p<=l.countP q:=List.countP_mono_left (λy hy=>h y GH);obtain⟨y,hy,c,b⟩:=a;rcases oH.1 hy with rfl|hy;rw[c,b];exact bQ;have:=Zm (λz d=>h z (by simp[d])) ⟨y,hy,c,b⟩;have:=h x bK;cases f:p x<;>cases g:q x<;>simp_all<;>omega
theorem PB{l:bm}{cs:List (List (bm))}{c:List (bm)}{a:bm}{u:Nat->Int}(i:dI l u)(j:c∈cs)(k:¬CH u c)(g:a∈c):AO (l++a) cs<AO l cs:=by classical refine Zm (λ_ _ h=>? _) ⟨c,j,? _,? _⟩;simp only[Cy]at h⊢;rintro⟨y,d,f⟩;exact h ⟨y,d,λe b=>s8 _ (f e b)⟩;simp only[decide_eq_false_iff_not,Classical.not_not];exact⟨a,g,λe b=>CM _ b⟩;simp only[Cy];rintro⟨y,d,f⟩;exact k ⟨y,d,λe b=>i e (f e b)⟩
theorem Zn{l:bm}{cs:List (List (bm))}{c:List (bm)}(f:c∈cs):wo l cs↔∃a∈c,wo (l++a) cs:=by constructor;rintro⟨u,b,h⟩;obtain⟨a,d,e⟩:=h c f;exact⟨a,d,u,wj.2 ⟨b,e⟩,h⟩;rintro⟨a,d,u,b,h⟩;exact⟨u,(wj.1 b).1,h⟩
end Ar
namespace Ar
theorem PC:∀(M:Nat)(l:List Nat),l.Nodup->(∀q∈l,q<M)->aA l<=M|0,l,_,hl=>by{cases l with|nil=>(simp)|cons a b=>exact absurd (hl a bK) bH}|M+1,l,hn,hl=>by by_cases hm:M∈l;have e:=MZ hm;have:=PC M (l.erase M) (hn.erase M) (λq hq=>Zhh);exact Zdl;have:=PC M l hn (λq hq=>ZhZ);omega
theorem Zo:∀(M:Nat)(l:List Nat),(∀q,q<M->q∈l)->M<=aA l|0,_,_=>cf _|M+1,l,h=>by have hm:=h M bH;have e:=MZ hm;have:=Zo M (l.erase M) (λq _=>by rw[List.mem_erase_of_ne bH];exact h q bH);exact Zdl
def gm(tr:bh)(k:Nat):List Nat:=(List.range k).filter (fun a=>decide (a ∉ tr.map (·.q)))
theorem jD1(tr:bh):gm tr 0=[]:=rfl
theorem Zp(tr:bh)(k:Nat):gm tr (k+1)=if k∈tr.map (·.q)then gm tr k else gm tr k++[k]:=by unfold gm;rw[CG,zM];split;rename_i h;simp only[List.filter_cons,List.filter_nil];rw[bL pJ];simp;rename_i h;simp only[List.filter_cons,List.filter_nil];rw[bO pJ]
theorem PD{tr:bh}{k a:Nat}:a∈gm tr k↔a<k/\a∉tr.map (·.q):=by unfold gm;rw[pS,xG];simp
theorem PE(tr:bh)(k:Nat):aA (gm tr k)<=k:=by unfold gm;exact ZmF
section
variable{F:Fx}{A:List At}{W:Nat}{al l0:Nat->Bool}{tr:bh}{left:List (Nat->Bool)}
theorem dS.PB(h:dS F A W al tr left l0){a:Nat}(o:a<aA A)(n:a∉tr.map (·.q)):aA tr<aA A:=by
 rcases uU (aA tr) (aA A) with b|_;exact b;exfalso;have l:(a::(tr.take (aA A)).map (·.q)).Nodup:=by rw[List.nodup_cons];refine⟨λf=>n ? _,? _⟩;rw[xI]at f;exact gR f;exact Zcy
 have g:=PC (aA A) _ l (λq j=>by rcases oH.1 j with e|e;omega;obtain⟨s,m,rfl⟩:=dP.1 e;obtain⟨k,i⟩:=CN m;obtain⟨d,c⟩:=nh i;exact(h.gj k s c).1 d);simp at g;omega
theorem dS.Zex(b:∀a,a<aA A->a∈tr.map (·.q)):aA A<=aA tr:=by have:=Zo (aA A) _ b;exact lO
theorem dS.Zey(h:dS F A W al tr left l0)(l:aA tr<aA A){last:Nat->Bool}(a:left[aA left-1]?=aQ last){q:Nat}{yes:Bool}(j:∃x,x<W/\last x=aS/\x.testBit q=yes):∃x,x<W/\l0 x=aS/\su tr (aA A) x/\x.testBit q=yes:=by obtain⟨x,b,d,i⟩:=j;have c:=h.len;obtain⟨f,g⟩:=(h.lf _ _ a x b).1 d;refine⟨x,b,f,λk s _ e=>g k s ? _ e,i⟩;exact ZjN
theorem dS.Zez(h:dS F A W al tr left l0){last:Nat->Bool}(a:left[aA left-1]?=aQ last):∃x,x<W/\last x=aS:=by obtain⟨x,b,d,f⟩:=h.some_;have c:=h.len;exact⟨x,b,(h.lf _ _ a x b).2 ⟨d,λk s _ e=>f k s bH e⟩⟩
theorem dS.ZeA(h:dS F A W al tr left l0)(p:∀a,a<aA A->a∈tr.map (·.q)){v:Nat->Int}(m:∀y∈di A tr,y.1.tr v=y.2):∃x,x<W/\al x=aS/\og A v x:=by obtain⟨x,f,l,n⟩:=h.some_;refine⟨x,f,h.sub x f l,λk a g=>? _⟩;have d:=(ck.1 g).1;obtain⟨s,o,e⟩:=dP.1 (p k d);obtain⟨j,b⟩:=CN o;subst e;have c:=(h.gj j s b).2 d;rw[n j s c b];have:=m (ku A s.q,s.yes) (cm (i:=j) (by rw[Je,b];rfl));simp only[ku,g]at this;exact this.symm
end
end Ar
namespace Ar
def enc(P K a b e:Nat):Nat:=(a*(P+1)+b)*K+e
theorem Zd1{P K a b e c:Nat}(h:c<e):enc P K a b c<enc P K a b e:=by unfold enc;omega
theorem Zq{P K a b c e d:Nat}(h:c<b)(g:d<K):enc P K a c d<enc P K a b e:=by unfold enc;have f:(a*(P+1)+c+1)*K<=(a*(P+1)+b)*K:=pP K bH;rw[CE (a*(P+1)+c) 1 K]at f;omega
theorem Zd2{P K a a' b c e d:Nat}(h:a'<a)(hb:c<=P)(i:d<K):enc P K a' c d<enc P K a b e:=by unfold enc;have g:(a'+1)*(P+1)<=a*(P+1):=pP _ bH;rw[CE a' 1 (P+1)]at g;have f:(a'*(P+1)+c+1)*K<=(a*(P+1)+b)*K:=pP K bH;rw[CE (a'*(P+1)+c) 1 K]at f;omega
def mx(A:List At):Nat:=aA A+150
def wu(A:List At)(tr:bh):Nat:=3^mx A-ni (mx A) tr
theorem jQ8(A:List At)(tr:bh):wu A tr<=3^mx A:=Nat.sub_le _ _
theorem jm8{A:List At}{tr:bh}(s:St)(h:aA tr<=aA A+144):wu A (tr++[s])<wu A tr:=by have b:=YZ (mx A) tr s xw;have a:=Jg (mx A) (tr++[s]);unfold wu;omega
theorem jm9{A:List At}{tr:bh}{p:Nat}{s t:St}(h:aA tr<=aA A+145)(b:tr[p]?=aQ s)(c:s.dq=aT)(a:t.dq=aS):wu A (tr.take p++[t])<wu A tr:=by have e:=Y0 (mx A) tr p s t xw b c a;have d:=Jg (mx A) (tr.take p++[t]);unfold wu;omega
def mu(A:List At)(W:Nat)(l0:Nat->Bool)(tr:bh)(e:Nat):Nat:=enc (3^mx A) (mx A+20) (wg l0 W) (wu A tr) e
section
variable{F:Fx}{A:List At}{W:Nat}{al l0 l1:Nat->Bool}{tr:bh}{left:List (Nat->Bool)}
theorem PG{e a:Nat}(h:a<e):mu A W l0 tr a<mu A W l0 tr e:=Zd1 h
theorem Jr{e a:Nat}(s:St)(h:aA tr<=aA A+144)(b:a<mx A+20):mu A W l0 (tr++[s]) a<mu A W l0 tr e:=Zq (jm8 s h) b
theorem Zr{p e a:Nat}{s t:St}(h:aA tr<=aA A+145)(d:tr[p]?=aQ s)(f:s.dq=aT)(c:t.dq=aS)(b:a<mx A+20):mu A W l0 (tr.take p++[t]) a<mu A W l0 tr e:=Zq (jm9 h d f c) b
theorem jD2{B:M3}{same:Nat->Bool}{i:bh}{e l:Nat}(h:dS F A W al tr left l0)(c:∀k,B.has k=aS->k<aA A)(o:∀x,x<W->(same x=aS↔∀k s,B.has k=aS->tr[k]?=aQ s->x.testBit s.q=s.yes))(b:∀x,x<W->l1 x=(l0 x&& ! same x))(p:l<mx A+20)(g:bh):mu A W l1 i l<mu A W l0 g e:=by refine Zd2 (Zb l0 l1 W (λx a f=>? _) ? _) (jQ8 _ _) p;rw[b x a]at f;simp only[jk]at f;exact f.1;obtain⟨x,a,j,m⟩:=h.some_;refine⟨x,a,j,? _⟩;have:same x=aS:=(o x a).2 (λk s n d=>m k s (c k n) d);rw[b x a,j,this];rfl
end
end Ar
section
namespace Ar
theorem A7(f:Nat->Nat)(n:Nat):∀k,y8 f (n+k)=y8 f n+y8 (λi=>f (n+i)) k|0=>rfl|k+1=>by have:=A7 f n k;show y8 f (n+k)+f (n+k)=_;exact GG
theorem qG9(f g:Nat->Nat):∀n,y8 (λi=>f i+g i) n=y8 f n+y8 g n|0=>rfl|n+1=>by have:=qG9 f g n;exact GG
theorem Qk(f:Nat->Nat):∀n,(∀i,i<n->f i=1)->y8 f n=n|0,_=>rfl|n+1,h=>by have:=Qk f n (λi _=>h i bH);have:=h n bH;exact GG
theorem A8(f:Nat->Nat):∀n,(∀i,i<n->f i=0)->y8 f n=0|0,_=>rfl|n+1,h=>by have:=A8 f n (λi _=>h i bH);have:=h n bH;exact GG
theorem EL(f:Nat->Nat)(a:∀i,f i<=1):∀n,y8 f n<=n|0=>cj _|n+1=>by have:=EL f a n;have:=a n;exact GG
def kD(G:Nat)(s y:Int):Nat:=if s<y/\y<=s+G then 1 else 0
def om(G:Nat)(S:aV)(y:Int):Nat:=if S.any (fun s=>decide (s<y/\y<=s+G))=aS then 1 else 0
def oo(G:Nat):aV->Int->Nat
 | [],_=>0
 | s::S,y=>kD G s y+oo G S y
variable{G:Nat}
theorem JU(s y:Int):kD G s y<=1:=by unfold kD;exact pK
theorem qS2(S:aV)(y:Int):om G S y<=oo G S y:=by induction S with|nil=>(simp[om,oo])|cons s S a=>simp only[oo];by_cases h:s<y/\y<=s+G;have:kD G s y=1:=by{unfold kD;exact zC};have:om G (s::S) y<=1:=by{unfold om;exact pK};omega;have b:om G (s::S) y=om G S y:=by{unfold om;simp[h]};omega
theorem jm1(s m:Int)(n:Nat):y8 (λi=>kD G s (m+1+i)) n<=G:=by
 by_cases h:s<m;obtain⟨k,_⟩:∃k:Nat,(k:Int)=max 0 (s+G-m):=⟨(max 0 (s+G-m)).toNat,bH⟩;have f:k<=G:=bH;by_cases j:n<=k;have:=EL (λi=>kD G s (m+1+i)) (λi=>JU _ _) n;omega;obtain⟨r,a⟩:∃r,n=k+r:=⟨n-k,bH⟩;rw[a,A7];have e:=EL (λi=>kD G s (m+1+i)) (λi=>JU _ _) k;have l:=A8 (λi=>kD G s (m+1+((k+i:Nat):Int))) r (λi _=>MP);omega;obtain⟨d,_⟩:∃d:Nat,(d:Int)=s-m:=⟨(s-m).toNat,bH⟩;by_cases j:n<=d;have:=A8 (λi=>kD G s (m+1+i)) n (λi g=>MP);omega;obtain⟨r,a⟩:∃r,n=d+r:=⟨n-d,bH⟩;rw[a,A7];have e:=A8 (λi=>kD G s (m+1+i)) d (λi g=>MP);have t:y8 (λi=>kD G s (m+1+((d+i:Nat):Int))) r<=G:=by by_cases b:r<=G;have:=EL (λi=>kD G s (m+1+((d+i:Nat):Int))) (λi=>JU _ _) r;omega;obtain⟨q,c⟩:∃q,r=G+q:=⟨r-G,bH⟩;rw[c,A7];have o:=EL (λi=>kD G s (m+1+((d+i:Nat):Int))) (λi=>JU _ _) G;have p:=A8 (λi=>kD G s (m+1+((d+(G+i):Nat):Int))) q (λi _=>MP);omega
 omega
theorem qp0(m:Int)(n:Nat):∀S:aV,y8 (λi=>oo G S (m+1+i)) n<=G*aA S|[]=>by{simp only[oo];rw[A8 _ _ (λ_ _=>rfl)];omega}|s::S=>by have d:=qp0 m n S;have c:=jm1 (G:=G) s m n;have b:=qG9 (λi=>kD G s (m+1+i)) (λi=>oo G S (m+1+i)) n;have a:y8 (λi=>oo G (s::S) (m+1+i)) n=y8 (λi=>kD G s (m+1+i)+oo G S (m+1+i)) n:=rfl;rw[a,b,mL,Nat.mul_succ];omega
theorem qf9{S:aV}{M y:Int}(a:M∈S)(c:y<=M):oo G S y=oo G (S.erase M) y:=by induction S with|nil=>(simp at a)|cons s S b=>by_cases e:s=M;subst e;rw[List.erase_cons_head];simp only[oo];have:kD G s y=0:=MP;omega;rw[List.erase_cons_tail mK];simp only[oo];rw[b ((List.mem_cons.1 a).resolve_left (λh=>e h.symm))]
def gV(G:Nat)(S:aV)(m x:Int):Int:=(y8 (fun i=>om G S (m+1+i)) (x-m).toNat:Nat)
theorem jm2{S:aV}{m a b:Int}(d:m<=a)(c:a<=b):gV G S m b-gV G S m a=(y8 (λi=>om G S (a+1+i)) (b-a).toNat:Nat):=by
 unfold gV;obtain⟨p,_⟩:∃p:Nat,(p:Int)=a-m:=⟨(a-m).toNat,bH⟩;obtain⟨k,_⟩:∃k:Nat,(k:Int)=b-a:=⟨(b-a).toNat,bH⟩;rw[show(b-m).toNat=p+k by omega,show(a-m).toNat=p by omega,show(b-a).toNat=k by omega,A7];have:(λi:Nat=>om G S (m+1+((p+i:Nat):Int)))=(λi:Nat=>om G S (a+1+(i:Int))):=by funext i;exact mJ
 rw[this];omega
theorem qg0{S:aV}{m a b:Int}(j:a∈S)(f:m<=a)(c:a<=b):(b-a<=G->gV G S m b-gV G S m a=b-a)/\(G<=b-a->G<=gV G S m b-gV G S m a):=by
 have e:∀i:Nat,i<G->om G S (a+1+i)=1:=by intro i d;unfold om;rw[bO];exact List.any_eq_true.2 ⟨a,j,bQ⟩
 rw[jm2 f c];constructor;intro h;rw[Qk _ _ (λi d=>e i bH)];omega;intro h;obtain⟨q,g⟩:∃q:Nat,(b-a).toNat=G+q:=⟨(b-a).toNat-G,bH⟩;rw[g,A7,Qk _ _ (λi d=>e i d)];omega
theorem qp1{S:aV}{m M:Int}(a:M∈S){x:Int}(d:x<=M):0<=gV G S m x/\gV G S m x<=((G*(aA S-1):Nat):Int):=by
 refine⟨by unfold gV;omega,? _⟩;unfold gV;have c:y8 (λi=>om G S (m+1+i)) (x-m).toNat<=y8 (λi=>oo G (S.erase M) (m+1+i)) (x-m).toNat:=by refine zP λi _=>? _;rw[<-qf9 a bH];exact qS2 _ _
 have b:=qp0 (G:=G) m (x-m).toNat (S.erase M);rw[MZ a]at b;omega
theorem jC3{S:aV}(h:S≠[]):∃m∈S,∀s∈S,m<=s:=by induction S with|nil=>(exact absurd rfl h)|cons s S a=>by_cases e:S=[];subst e;exact⟨s,bK,bK⟩;obtain⟨m,hm,hle⟩:=a e;by_cases b:s<=m;exact⟨s,bK,λx hx=>Zic⟩;exact ZhL
theorem jP4{S:aV}(h:S≠[]):∃m∈S,∀s∈S,s<=m:=by induction S with|nil=>(exact absurd rfl h)|cons s S a=>by_cases e:S=[];subst e;exact⟨s,bK,bK⟩;obtain⟨m,hm,hle⟩:=a e;by_cases b:m<=s;exact⟨s,bK,λx hx=>Zic⟩;exact ZhL
theorem jC4(G:Nat)(S:aV)(l:0∈S):∃φ:Int->Int,φ 0=0/\(∀a∈S,∀b∈S,∀c:Int,-(G:Int)<=c->c+1<=G->(a<=b+c↔φ a<=φ b+c))/\(∀a∈S,∀b∈S,φ a-φ b<=((G*(aA S-1):Nat):Int)):=by
 have f:S≠[]:=λe=>by rw[e]at l;simp at l
 obtain⟨m,_,h⟩:=jC3 f;obtain⟨_,k,d⟩:=jP4 f;refine⟨λx=>gV G S m x-gV G S m 0,bK,λa i b hb c o n=>? _,λa i b hb=>? _⟩;{have p:=h a i;have lb:=h b hb;show a<=b+c↔gV G S m a-gV G S m 0<=gV G S m b-gV G S m 0+c;by_cases j:a<=b;have g:=qg0 (G:=G) (m:=m) i p j;by_cases hd:b-a<=G;have:=g.1 hd;omega;have:=g.2 bH;omega;have g:=qg0 (G:=G) (m:=m) hb lb (bH:b<=a);by_cases hd:a-b<=G;have:=g.1 hd;omega;have:=g.2 bH;omega};have o:=qp1 (G:=G) (m:=m) k (d a i);have n:=qp1 (G:=G) (m:=m) k (d b hb);show gV G S m a-gV G S m 0-(gV G S m b-gV G S m 0)<=_;omega
theorem jm3{T A:aY}{v:Nd->Int}(M:Good T v)(D:∀x∈T,∀p∈J6 x,p∈T)(P:∀x∈A,fe x/\∀p∈(J6 x).take 2,p∈T)(g:Nat)(C:∀n,.mk 4 ByteArray.empty n []∈T-> -(g:Int)<=n/\n<=g)(L:∀x∈A,-(g:Int)<=eB ((J6 x).drop 2)/\eB ((J6 x).drop 2)<=g):∃o,Good T o/\(∀x∈A,iY o x=iY v x)/\(∀x∈T,∀y∈T,o x-o y<=(((g+1)*aA T:Nat):Int))/\(∀x∈T,o x<=(((g+1)*aA T:Nat):Int)/\ -((((g+1)*aA T:Nat):Int))<=o x):=by
 obtain⟨φ,O,l,J⟩:=jC4 (g+1) (0::T.map v) bK;have d:∀x∈T,v x∈0::T.map v:=λx j=>kJ _ (G7 j);have E:(0:Int)∈0::T.map v:=bK;have s:∀a∈0::T.map v,∀b∈0::T.map v,φ a=φ b->a=b:=by intro a k b hb e;have u:=(l a k b hb 0 bH bH).2 bH;have t:=(l b hb a k 0 bH bH).2 bH;omega
 have N:aA (0::T.map v)-1=aA T:=bK;refine⟨λx=>φ (v x),⟨λn K=>? _,λw ps qs H F f=>? _⟩,λx j=>? _,λx j y R=>? _,λx j=>? _⟩;{have e:=M.num n K;have hb:=C n K;have m:=d _ K;rw[e]at m;have u:=(l n m 0 E n bH bH).1 bH;have t:=(l 0 E n m (-n) bH bH).1 bH;show φ (v _)=n;rw[e];omega};{show φ (v _)=φ (v _);have:ps.map v=qs.map v:=by{have B:∀p∈ps,p∈T:=λp h=>D _ H p h;have z:∀p∈qs,p∈T:=λp h=>D _ F p h;clear H F;induction ps generalizing qs with|nil=>(cases qs with|nil=>(rfl)|cons _ _=>simp at f)|cons p ps S=>cases qs with|nil=>(simp at f)|cons q qs=>simp only[List.map_cons,List.cons.injEq]at f⊢;exact⟨s _ (d p (B p bK)) _ (d q (z q bK)) f.1,S qs f.2 (λr I=>B r (by simp[I])) (λr I=>z r (by simp[I]))⟩};rw[M.fn w ps qs H F this]};have hrel:∀(w:aU)(a b c:Int),a∈0::T.map v->b∈0::T.map v-> -(g:Int)<=c->c<=g->gI w (φ a) (φ b) c=gI w a b c:=by intro w a b c k hb u t;have W:=l a k b hb 0 bH bH;have U:=l b hb a k 0 bH bH;have X:=l a k b hb (-1) bH bH;have V:=l a k b hb c bH bH;exact Zhk
 obtain⟨G,f⟩:=P x j;have i:=L x j;cases G with|two Q k hb=>(exact hrel _ _ _ _ (d _ (f _ kH)) (d _ (f _ kH)) i.1 i.2)|le Q k hb u t=>exact hrel _ _ _ _ (d _ (f _ kH)) (d _ (f _ kH)) i.1 i.2
 have:=J _ (d x j) _ (d y R);rw[N]at this;exact dC;have u:=J _ (d x j) 0 E;have t:=J 0 E _ (d x j);rw[N,O]at u t;show φ (v x)<=_/\_<=φ (v x);omega
end Ar
end
namespace Ar
mutual
noncomputable def ef(t:Bool):List Nd->Nd->List Nd
 | X,.mk k w v ps=>if Y3 t k=aS then eA (cB t X ps) (.mk k w v ps) else cB t X ps
noncomputable def cB(t:Bool):List Nd->List Nd->List Nd
 | X,[]=>X
 | X,p::ps=>cB t (ef t X p) ps
end
theorem jm0(t:Bool)(X:aY)(ps:aY)(p:Nd):cB t X (ps++[p])=ef t (cB t X ps) p:=by induction ps generalizing X with|nil=>(simp[cB])|cons q qs a=>simp[cB,a]
mutual
theorem Ql(t:Bool):∀ (x:Nd) (X:List Nd) (y:Nd),y∈ef t X x↔y∈X\/y∈Z1 t x
 | .mk k w v ps,X,y=>by
  simp only[ef,Z1,da]
  split
  ·rw[tK,yP t ps X y]
   constructor
   ·rintro((h|h)|h)
    ·exact aO h
    ·exact aP (aP h)
    ·exact aP (aO (by simp[h]))
   ·rintro(h|h|h)
    ·exact aO (aO h)
    ·exact aP (by simpa using h)
    ·exact aO (aP h)
  ·rw[yP t ps X y]
   simp
theorem yP(t:Bool):∀ (ps:List Nd) (X:List Nd) (y:Nd),y∈cB t X ps↔y∈X\/y∈z8 t ps
 | [],X,y=>by simp[cB,z8]
 | p::ps,X,y=>by
  simp only[cB,z8,da]
  rw[yP t ps _ y,Ql t p X y]
  constructor
  ·rintro((h|h)|h)
   ·exact aO h
   ·exact aP (aO h)
   ·exact aP (aP h)
  ·rintro(h|h|h)
   ·exact aO (aO h)
   ·exact aO (aP h)
   ·exact aP h
end
mutual
theorem Qm(t:Bool):∀ (x:Nd) (X:List Nd),X.Nodup->(ef t X x).Nodup
 | .mk k w v ps,X,h=>by
  simp only[ef]
  split
  ·exact Ao (yQ t ps X h)
  ·exact yQ t ps X h
theorem yQ(t:Bool):∀ (ps:List Nd) (X:List Nd),X.Nodup->(cB t X ps).Nodup
 | [],_,h=>h
 | p::ps,X,h=>yQ t ps _ (Qm t p X h)
end
theorem qo8{α:Type}[DecidableEq α]:∀{a b:List α},a.Nodup->(∀x∈a,x∈b)->aA a<=aA b|[],_,_,_=>bK|x::a,b,hn,hs=>by rw[List.nodup_cons]at hn;have c:=hs x bK;have:=qo8 (a:=a) (b:=b.erase x) hn.2 (λy hy=>(List.mem_erase_of_ne (a:=y) (b:=x) (λe=>hn.1 (by rw[<-e];exact hy))).2 (hs y GH));rw[MZ c]at this;have d:0<aA b:=G9 c;exact bQ
open Classical in
theorem qo9{a b:aY}(d:a.Nodup)(c:∀x∈a,x∈b):aA a<=aA b:=qo8 d c
noncomputable def fP(t:Bool)(L:aY):aY:=cB t [] L
theorem jP3{L:aY}(eM:∀ f∈L,ee f)(yR:wk (fP aS L)):gX (fP aS L) (fP aT L) L where
 tn:=yQ aS L [] sZ
 an:=yQ aT L [] sZ
 ok:=eM
 tm:=fun x=>by unfold fP;rw[yP];simp[Z9]
 am:=fun x=>by unfold fP;rw[yP];simp[Z9]
 ar:=yR
end Ar
end Go.Proofs.YtegbdaffhpiacaaGreatDoor
