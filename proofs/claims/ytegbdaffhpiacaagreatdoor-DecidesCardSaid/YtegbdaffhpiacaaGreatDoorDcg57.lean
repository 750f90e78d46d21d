/- Part. -/
import Derived.Test.YtegbdaffhpiacaaGreatDoorDcg20
namespace Go.Proofs.YtegbdaffhpiacaaGreatDoor
namespace Ar
structure St where
 q:Nat
 yes:Bool
 cr:Bool
 aO:M3
def jb(A:List At)(q:Nat):At:=match A[q]? with
 | some x=>x
 | none=>⟨[60],(q-A.length)/12,(q-A.length)%12,0⟩
def cu(A:List At)(tr:List St):List (At × Bool):=tr.map (fun s=>(jb A s.q,s.yes))
theorem qZ7(A:List At)(tr:List St):(cu A tr).length=tr.length:=SC
theorem GS(A:List At)(tr:List St)(k:Nat):(cu A tr)[k]?=(tr[k]?).map (λs=>(jb A s.q,s.yes)):=SC
theorem qZ8(A:List At)(tr a:List St):cu A (tr++a)=cu A tr++cu A a:=SC
theorem jC6(A:List At)(tr:List St)(k:Nat):cu A (tr.take k)=(cu A tr).take k:=SC
def qY(tr:List St)(n:Nat)(x:Nat):Prop:=∀ k s,k<n->tr[k]?=some s->x.testBit s.q=s.yes
def nS(A:List At)(v:Nat->Int)(x:Nat):Prop:=∀ k a,A[k]?=some a->x.testBit k=a.tr v
structure cW(F:Fx)(A:List At)(W:Nat)(allowed:Nat->Bool)(tr:List St)(left:List (Nat->Bool))(l0:Nat->Bool):Prop where
 len:left.length=min tr.length A.length+1
 eU:∀ k s,tr[k]?=some s->(k<A.length↔s.q<A.length)
 nd:(tr.map (·.q)).Nodup
 zA:∀ s∈tr,s.q<A.length+144
 lf:∀ n l,left[n]?=some l->∀ x,x<W->(l x=true↔l0 x=true/\qY tr n x)
 sub:∀ x,x<W->l0 x=true->allowed x=true
 snd:∀ v,F.V v->∀ x,x<W->allowed x=true->nS A v x->l0 x=true
 tn:∀ k s,tr[k]?=some s->X8 k s.aO/\(s.cr=true->∀ v,F.V v->Hs (HA (cu A tr)) s.aO v->(jb A s.q).tr v=s.yes)/\(s.cr=false->s.aO=M3.none)
 some_:∃ x,x<W/\l0 x=true/\qY tr A.length x
theorem cW.get{F:Fx}{A:List At}{W:Nat}{al l0:Nat->Bool}{tr:List St}{left:List (Nat->Bool)}(h:cW F A W al tr left l0){n:Nat}(a:n<=min tr.length A.length):∃l,left[n]?=some l:=by have:=h.len;exact⟨left[n]'aA,aU aA⟩
theorem cW.bL{F:Fx}{A:List At}{W:Nat}{al l0:Nat->Bool}{tr:List St}{left:List (Nat->Bool)}(h:cW F A W al tr left l0):tr.length<=A.length+144:=by
 have h1:=h.nd;have h2:∀q∈tr.map (·.q),q<A.length+144:=by intro q hq;obtain⟨s,f,rfl⟩:=dn.1 hq;exact h.zA s f
 have c:∀(M:Nat)(l:List Nat),l.Nodup->(∀q∈l,q<M)->l.length<=M:=by intro M;induction M with|zero=>(intro l _ hl;cases l with|nil=>(simp)|cons a b=>exact absurd (hl a aC) aA)|succ M d=>intro l hn hl;by_cases hm:M∈l;have e:=List.length_erase_of_mem hm;have:=d (l.erase M) (hn.erase M) (λq hq=>Zg8);exact Zcn;have:=d l hn (λq hq=>ZgJ);omega
 have:=c _ _ h1 h2;exact ku
theorem cW.start(F:Fx)(A:List At)(W:Nat)(al:Nat->Bool)(h:∃x,x<W/\al x=true):cW F A W al [] [al] al:=by
 obtain⟨x,d,c⟩:=h;refine⟨aC,aC,aC,aC,?_,λ_ _ e=>e,λ_ _ _ _ e _=>e,aC,x,d,c,λk s b e=>bI⟩;intro n _ a x _;have:n=0:=by rcases Nat.eq_zero_or_pos n with e|e;exact e;rw[iQ aM]at a;simp at a
 subst this;simp at a;subst a;exact⟨λe=>⟨e,λk s b=>aA⟩,λe=>e.1⟩
theorem qZ{α:Type}{l:List α}{x y:α}{k:Nat}(h:(l++[x])[k]?=some y):(k<l.length/\l[k]?=some y)\/(k=l.length/\y=x):=by
 by_cases a:k<l.length;rw[dx a]at h;exact .inl ⟨a,h⟩;rw[cB aA]at h;have b:k-l.length=0:=by rcases Nat.eq_zero_or_pos (k-l.length)with e|e;exact e;rw[iQ aM]at h;exact gK
 rw[b]at h;simp at h;exact .inr ⟨aA,h.symm⟩
theorem M7{tr:List St}{s:St}{n x:Nat}(b:n<=tr.length):qY (tr++[s]) n x↔qY tr n x:=by constructor;intro h k t a e;exact h k t a (by rw[dx aA];exact e);intro h k t a e;rw[dx aA]at e;exact h k t a e
theorem VJ{tr:List St}{s:St}{n x:Nat}(f:tr.length<n):qY (tr++[s]) n x↔qY tr n x/\x.testBit s.q=s.yes:=by constructor;intro h;refine⟨λk t a e=>?_,h tr.length s f aC⟩;have b:k<tr.length:=(aX.1 e).1;exact h k t a (by rw[dx b];exact e);rintro⟨d,c⟩k t a e;rcases qZ e with⟨_,e⟩|⟨_,rfl⟩;exact d k t a e;exact c
theorem VK{l:List Nat}{x:Nat}(h:l.Nodup)(b:x∉l):(l++[x]).Nodup:=by rw[Fa];refine⟨h,aC,λ_ a _ hb e=>?_⟩;simp at hb;subst hb e;exact b a
theorem VL{F:Fx}{A:List At}{W:Nat}{al l0:Nat->Bool}{tr:List St}{left:List (Nat->Bool)}(h:cW F A W al tr left l0){s:St}(hb:X8 tr.length s.aO)(i:s.cr=true->∀v,F.V v->Hs (HA (cu A tr)) s.aO v->(jb A s.q).tr v=s.yes)(c:s.cr=false->s.aO=M3.none):∀k t,(tr++[s])[k]?=some t->X8 k t.aO/\(t.cr=true->∀v,F.V v->Hs (HA (cu A (tr++[s]))) t.aO v->(jb A t.q).tr v=t.yes)/\(t.cr=false->t.aO=M3.none):=by intro k t e;rcases qZ e with⟨_,e⟩|⟨rfl,rfl⟩;obtain⟨f,g,l⟩:=h.tn k t e;refine⟨f,λa v b hh=>g a v b (λj hj=>?_),l⟩;have d:=f j hj;exact Zhn;refine⟨hb,λa v b hh=>i a v b (λj hj=>?_),c⟩;have d:=hb j hj;exact Zhn
theorem cW.atom{F:Fx}{A:List At}{W:Nat}{al l0 l:Nat->Bool}{tr:List St}{left:List (Nat->Bool)}(h:cW F A W al tr left l0){s:St}(r:s.q<A.length)(z:tr.length<A.length)(y:s.q∉tr.map (·.q))(o:s.cr=false)(hb:s.aO=M3.none)(C:∃x,x<W/\l0 x=true/\qY tr A.length x/\x.testBit s.q=s.yes){last:Nat->Bool}(f:left[left.length-1]?=some last)(g:∀x,x<W->(l x=true↔last x=true/\x.testBit s.q=s.yes)):cW F A W al (tr++[s]) (left++[l]) l0:=by have i:=h.len;refine⟨aM,?_,?_,?_,?_,h.sub,h.snd,?_,?_⟩;intro k t e;rcases qZ e with⟨_,e⟩|⟨rfl,rfl⟩;exact h.eU k t e;exact⟨λ_=>r,λ_=>z⟩;rw[pE];exact VK h.nd y;exact Zgy;intro n m hm x d;rcases qZ hm with⟨D,e⟩|⟨D,rfl⟩;rw[M7 aA];exact h.lf n m e x d;rw[g x d,h.lf _ _ f x d];have E:n=tr.length+1:=aA;have w:left.length-1=tr.length:=aA;rw[E,w,VJ aA];constructor;rintro⟨⟨a,b⟩,c⟩;exact⟨a,⟨λk t p e=>b k t Zi4 e,c⟩⟩;rintro⟨a,b,c⟩;exact⟨⟨a,λk t p e=>b k t aA e⟩,c⟩;exact VL h (by rw[hb];exact X8.none _) (λe=>by rw[o]at e;exact bI) (λ_=>hb);obtain⟨x,v,j,B,u⟩:=C;exact⟨x,v,j,(VJ aA).2 ⟨B,u⟩⟩
theorem cW.split{F:Fx}{A:List At}{W:Nat}{al l0:Nat->Bool}{tr:List St}{left:List (Nat->Bool)}(h:cW F A W al tr left l0){s:St}(o:A.length<=s.q)(l:s.q<A.length+144)(p:A.length<=tr.length)(i:s.q∉tr.map (·.q))(hb:X8 tr.length s.aO)(f:s.cr=true->∀v,F.V v->Hs (HA (cu A tr)) s.aO v->(jb A s.q).tr v=s.yes)(b:s.cr=false->s.aO=M3.none):cW F A W al (tr++[s]) left l0:=by have c:=h.len;refine⟨aM,?_,?_,?_,?_,h.sub,h.snd,VL h hb f b,?_⟩;intro k t e;rcases qZ e with⟨_,e⟩|⟨rfl,rfl⟩;exact h.eU k t e;omega;rw[pE];exact VK h.nd i;exact Zgy;intro n m hm x a;have:n<left.length:=(aX.1 hm).1;rw[M7 aA];exact h.lf n m hm x a;obtain⟨x,g,d,j⟩:=h.some_;exact⟨x,g,d,(M7 aA).2 j⟩
theorem lO{α:Type}{l:List α}{c k:Nat}{x:α}(h:(l.take c)[k]?=some x):k<c/\l[k]?=some x:=by rw[qD]at h;split at h;rename_i a;exact⟨a,h⟩;exact gK
theorem GU{tr:List St}{c n x:Nat}:qY (tr.take c) n x↔qY tr (min c n) x:=by constructor;intro h k s a e;exact h k s aA (by rw[qD,aJ aA];exact e);intro h k s a e;obtain⟨_,b⟩:=lO e;exact h k s aA b
theorem M8{A:List At}{tr:List St}{c k:Nat}(a:k<c)(v:Nat->Int):HA (cu A (tr.take c)) k v↔HA (cu A tr) k v:=by unfold HA;rw[jC6,qD,aJ a]
theorem cW.leave{F:Fx}{A:List At}{W:Nat}{al l0:Nat->Bool}{tr:List St}{left:List (Nat->Bool)}(h:cW F A W al tr left l0)(c:Nat)(f:c<=tr.length):cW F A W al (tr.take c) (left.take (min c A.length+1)) l0:=by have a:=h.len;refine⟨aM,?_,?_,?_,?_,h.sub,h.snd,?_,?_⟩;intro k s e;exact h.eU k s (lO e).2;exact ZbJ;intro s b;exact h.zA s (fG b);intro n l e x d;obtain⟨h1,h2⟩:=lO e;rw[GU,show min c n=n by omega];exact h.lf n l h2 x d;exact Zj0;obtain⟨x,h1,h2,h3⟩:=h.some_;refine⟨x,h1,h2,?_⟩;rw[GU];intro k s hk e;exact h3 k s aA e
theorem cW.Zds{F:Fx}{A:List At}{W:Nat}{al l0 H:Nat->Bool}{tr:List St}{left g:List (Nat->Bool)}(h:cW F A W al tr left l0){B:M3}(w:∀k,B.has k=true->k<A.length)(q:∀v,F.V v->¬Hs (HA (cu A tr)) B v)(same:Nat->Bool)(L:∀x,x<W->(same x=true↔∀k s,B.has k=true->tr[k]?=some s->x.testBit s.q=s.yes))(D:g.length=left.length)(G:∀(n:Nat)(l I:Nat->Bool),left[n]?=some l->g[n]?=some I->∀x,x<W->I x=(l x&& !same x))(i:∀x,x<W->H x=(l0 x&& !same x))(c:Nat)(P:c<g.length)(M:∃x,x<W/\∃l,g[c]?=some l/\l x=true):cW F A W al (tr.take c) (g.take (c+1)) H:=by have K:=h.len;refine⟨aM,?_,?_,?_,?_,?_,?_,?_,?_⟩;intro k s e;exact h.eU k s (lO e).2;exact ZbJ;intro s u;exact h.zA s (fG u);intro n l e x f;obtain⟨h1,h2⟩:=lO e;obtain⟨m,r⟩:∃m,left[n]?=some m:=⟨left[n]'aA,aU aA⟩;rw[GU,show min c n=n by omega,G n m l r h2 x f,i x f];have:=h.lf n m r x f;simp only[jo];rw[this];constructor;rintro⟨⟨a,b⟩,d⟩;exact⟨⟨a,d⟩,b⟩;rintro⟨⟨a,d⟩,b⟩;exact⟨⟨a,b⟩,d⟩;intro x f e;rw[i x f]at e;simp only[jo]at e;exact h.sub x f e.1;{intro v hv x f O E;rw[i x f];simp only[jo,Bool.not_eq_true'];refine⟨h.snd v hv x f O E,?_⟩;cases e:same x with|false=>(rfl)|true=>exfalso;refine q v hv (λk hk=>?_);intro _ o;rw[GS]at o;cases t:tr[k]? with|none=>(rw[t]at o;simp at o)|some s=>rw[t]at o;simp at o;subst o;have z:=(h.eU k s t).1 (w k hk);have h3:=(L x f).1 e k s hk t;obtain⟨a,p⟩:∃a,A[s.q]?=some a:=⟨A[s.q]'z,aU z⟩;have J:=E s.q a p;show(jb A s.q).tr v=s.yes;unfold jb;rw[p];show a.tr v=s.yes;rw[<-J,h3]};exact Zj0;obtain⟨x,f,l,y,e⟩:=M;obtain⟨m,r⟩:∃m,left[c]?=some m:=⟨left[c]'aA,aU aA⟩;rw[G c m l r y x f]at e;simp only[jo]at e;have C:=(h.lf c m r x f).1 e.1;refine⟨x,f,?_,?_⟩;rw[i x f];simp only[jo];exact⟨C.1,e.2⟩;rw[GU];intro k s hk N;exact C.2 k s aA N
theorem cW.Zdt{F:Fx}{A:List At}{W:Nat}{al l0:Nat->Bool}{tr:List St}{left:List (Nat->Bool)}(h:cW F A W al tr left l0){B:M3}(i:∀k,B.has k=true->k<A.length)(d:∀v,F.V v->¬Hs (HA (cu A tr)) B v)(same:Nat->Bool)(r:∀x,x<W->(same x=true↔∀k s,B.has k=true->tr[k]?=some s->x.testBit s.q=s.yes))(t:∀x,x<W->(l0 x&& !same x)=false):∀v,F.V v->∀x,x<W->al x=true->¬nS A v x:=by intro v n x b u m;have p:=h.snd v n x b u m;have g:=t x b;rw[p]at g;simp at g;refine d v n (λk j=>?_);intro _ c;rw[GS]at c;cases f:tr[k]? with|none=>(rw[f]at c;simp at c)|some s=>rw[f]at c;simp at c;subst c;have l:=(h.eU k s f).1 (i k j);have q:=(r x b).1 g k s j f;obtain⟨a,e⟩:∃a,A[s.q]?=some a:=⟨A[s.q]'l,aU l⟩;have o:=m s.q a e;show(jb A s.q).tr v=s.yes;unfold jb;rw[e];show a.tr v=s.yes;rw[<-o,q]
theorem VM{F:Fx}{A:List At}{W:Nat}{al l0:Nat->Bool}{tr:List St}{left:List (Nat->Bool)}(h:cW F A W al tr left l0){B:M3}(i:∀v,F.V v->¬Hs (HA (cu A tr)) B v){p:Nat}{s:St}(r:tr[p]?=some s)(b:∀k,B.has k=true->k<=p):X8 p ((B.sub (M3.of p)).or s.aO)/\(∀v,F.V v->Hs (HA (cu A (tr.take p))) ((B.sub (M3.of p)).or s.aO) v->(jb A s.q).tr v= !s.yes)/\(s.cr=true->∀v,F.V v->¬Hs (HA (cu A (tr.take p))) ((B.sub (M3.of p)).or s.aO) v):=by
 obtain⟨o,u,_⟩:=h.tn p s r;have j:X8 p ((B.sub (M3.of p)).or s.aO):=by refine X8.or (λk a=>?_) o;rw[M3.Lv]at a;simp only[jo,Bool.not_eq_true']at a;have y:=b k a.1;have q:=M3.BV a.1;by_cases e:k=p;subst e;rw[M3.wD q]at a;simp at a;omega
 have g:∀v,F.V v->Hs (HA (cu A (tr.take p))) ((B.sub (M3.of p)).or s.aO) v->¬(jb A s.q).tr v=s.yes:=by intro v f d e;refine i v f (λk a=>?_);by_cases n:k=p;subst n;intro _ m;rw[GS,r]at m;simp at m;subst m;exact e;have t:=b k a;have q:=M3.BV a;refine(M8 (c:=p) aA v).1 (d k ?_);rw[M3.BU,M3.Lv,a];have:(M3.of p).has k=false:=by{by_cases l:p<192;rw[M3.wD l];simpa using n;have x:M3.of p=⟨0,0,BitVec.twoPow 64 (p-128)⟩:=by{unfold M3.of;rw[aF aA,aF aA]};rw[x];unfold M3.has;split;simp;split;simp;simp[BitVec.getLsbD_twoPow];omega};exact wu
 refine⟨j,λv f d=>?_,λw v f d=>?_⟩;have:=g v f d;cases C:(jb A s.q).tr v<;>cases z:s.yes<;>simp_all;refine g v f d (u w v f (λk a=>?_));have:=o k a;refine(M8 (c:=p) aA v).1 (d k ?_);rw[M3.BU,a];simp
def lP:Nat->List St->Nat
 | _,[]=>0
 | 0,_::_=>0
 | m+1,s::tr=>(if s.cr=true then 2 else 1)*3^m+lP m tr
theorem GV:∀(m:Nat)(tr:List St),lP m tr<3^m|0,[]=>by{simp[lP]}|0,_::_=>by{simp[lP]}|m+1,[]=>by{simp[lP];exact Nat.pos_of_ne_zero aC}|m+1,s::tr=>by have:=GV m tr;simp only[lP,Nat.pow_succ];exact ow
theorem VN:∀(m:Nat)(tr:List St)(s:St),tr.length<m->lP m tr<lP m (tr++[s])|0,_,_,h=>aA|m+1,[],s,_=>by{have:0<3^m:=Nat.pos_of_ne_zero aC;simp only[lP,qz];exact ow}|m+1,t::tr,s,h=>by have:=VN m tr s (by simp at h;omega);simp only[lP,tO];omega
theorem VO:∀(m:Nat)(tr:List St)(p:Nat)(s t:St),tr.length<=m->tr[p]?=some s->s.cr=false->t.cr=true->lP m tr<lP m (tr.take p++[t])|0,[],_,_,_,_,e,_,_=>bI|0,_::_,_,_,_,h,_,_,_=>gK|m+1,[],_,_,_,_,e,_,_=>bI|m+1,u::tr,0,s,t,h,e,e1,e2=>by{simp at e;subst e;have:=GV m tr;simp only[lP,Fc,qz];rw[e1,e2];exact aM}|m+1,u::tr,p+1,s,t,h,e,e1,e2=>by have:=VO m tr p s t (by simp at h;omega) my e1 e2;simp only[lP,List.take_succ_cons,tO];omega
end Ar
namespace Ar
def X0(l:List (BitVec 64))(n:Nat):Bool:=(l.getD (n/64) 0).getLsbD (n%64)
theorem VP{l:List (BitVec 64)}{n:Nat}(h:n<64*l.length):n/64<l.length:=aA
theorem xv{l:List (BitVec 64)}{n:Nat}(h:n<64*l.length):∃x,l[n/64]?=some x/\X0 l n=x.getLsbD (n%64):=by have a:=VP h;refine⟨l[n/64],aU a,?_⟩;unfold X0;rw[Lo,aU a];rfl
theorem zB{l:List (BitVec 64)}{n:Nat}{x:BitVec 64}(h:l[n/64]?=some x):X0 l n=x.getLsbD (n%64):=by unfold X0;rw[Lo,h];rfl
def dF(l:List (BitVec 64)):List (BitVec 64):=l.map (~~~ ·)
def l8(l m:List (BitVec 64)):List (BitVec 64):=List.zipWith (· &&& ·) l m
def sG(l m:List (BitVec 64)):List (BitVec 64):=List.zipWith (· ||| ·) l m
def mP(k:Nat):List (BitVec 64):=List.replicate k 0
theorem xw{l:List (BitVec 64)}{n:Nat}(h:n<64*l.length):X0 (dF l) n= !X0 l n:=by obtain⟨x,b,a⟩:=xv h;rw[a,zB (x:= ~~~x) (by simp[dF,b])];simp[show n%64<64 by omega]
theorem zC{l m:List (BitVec 64)}{n:Nat}(h:n<64*l.length)(e:m.length=l.length):X0 (l8 l m) n=(X0 l n&&X0 m n):=by obtain⟨x,c,a⟩:=xv h;obtain⟨y,d,b⟩:=xv (l:=m) (n:=n) aA;rw[a,b,zB (x:=x&&&y) (by simp[l8,Lp,c,d])];simp
theorem GW{l m:List (BitVec 64)}{n:Nat}(h:n<64*l.length)(e:m.length=l.length):X0 (sG l m) n=(X0 l n||X0 m n):=by obtain⟨x,c,a⟩:=xv h;obtain⟨y,d,b⟩:=xv (l:=m) (n:=n) aA;rw[a,b,zB (x:=x|||y) (by simp[sG,Lp,c,d])];simp
theorem GX(k n:Nat):X0 (mP k) n=false:=by unfold X0 mP;rw[Lo,List.getElem?_replicate];split<;>simp
theorem oX(l:List (BitVec 64)):(dF l).length=l.length:=by simp[dF]
theorem sH{l m:List (BitVec 64)}(h:m.length=l.length):(l8 l m).length=l.length:=by simp[l8,h]
theorem xx{l m:List (BitVec 64)}(h:m.length=l.length):(sG l m).length=l.length:=by simp[sG,h]
theorem oY(k:Nat):(mP k).length=k:=by simp[mP]
def pat(i a:Nat):BitVec 64 :=
 if a<6 then(match a with
  | 0=>0xAAAAAAAAAAAAAAAA#64
  | 1=>0xCCCCCCCCCCCCCCCC#64
  | 2=>0xF0F0F0F0F0F0F0F0#64
  | 3=>0xFF00FF00FF00FF00#64
  | 4=>0xFFFF0000FFFF0000#64
  | _=>0xFFFFFFFF00000000#64)
 else if i.testBit (a-6)=true then BitVec.allOnes 64 else 0
theorem jP9:∀a,a<6->∀b,b<64->(pat 0 a).getLsbD b=b.testBit a:=aE
theorem GY(n a:Nat):(pat (n/64) a).getLsbD (n%64)=n.testBit a:=by
 by_cases h:a<6;have b:=jP9 a h (n%64) aA;have c:pat (n/64) a=pat 0 a:=by unfold pat;rw[aJ h,aJ h]
 rw[c,b];rw[show(64:Nat)=2^6 from rfl,Nat.testBit_mod_two_pow];simp[h];unfold pat;rw[aF h];have b:(n/64).testBit (a-6)=n.testBit a:=by rw[show(64:Nat)=2^6 from rfl,Nat.testBit_div_two_pow];exact kv
 rw[b];cases n.testBit a with|true=>(show(BitVec.allOnes 64).getLsbD (n%64)=true;rw[BitVec.getLsbD_allOnes];exact fS aA)|false=>simp
def V5(k a:Nat)(yes:Bool):List (BitVec 64):=(List.range k).map (fun i=>if yes=true then pat i a else ~~~pat i a)
theorem sI(k a:Nat)(yes:Bool):(V5 k a yes).length=k:=by simp[V5]
theorem M9{k a n:Nat}{yes:Bool}(h:n<64*k):X0 (V5 k a yes) n=(n.testBit a==yes):=by have b:n/64<k:=aA;rw[zB (x:=if yes=true then pat (n/64) a else ~~~pat (n/64) a) (by simp[V5,List.getElem?_map,List.getElem?_range b])];cases yes with|true=>(simp only[if_true];rw[GY];simp)|false=>simp only[Bool.false_eq_true,if_false];rw[BitVec.getLsbD_not,GY];simp[show n%64<64 by omega]
theorem jC7{l:List (BitVec 64)}:(∀x∈l,x=0)↔∀n,n<64*l.length->X0 l n=false:=by constructor;intro h n f;obtain⟨x,a,c⟩:=xv f;rw[c,h x (bg a)];simp;intro h x g;obtain⟨i,d,e⟩:=BC g;apply BitVec.eq_of_getLsbD_eq;intro b _;have a:=h (64*i+b) aA;rw[zB (x:=x) (by rw[show(64*i+b)/64=i by omega,aU d,e]),show(64*i+b)%64=b by omega]at a;rw[a];simp
def uM(p:Nat->Bool):Nat->Nat
 | 0=>0
 | n+1=>uM p n+(if p n=true then 1 else 0)
theorem VQ(p q:Nat->Bool):∀n,(∀x,x<n->q x=true->p x=true)->uM q n<=uM p n|0,_=>aW _|n+1,h=>by have b:=VQ p q n (λx _=>h x aA);have a:=h n aA;simp only[uM];exact ZiK
theorem VR(p q:Nat->Bool):∀n,(∀x,x<n->q x=true->p x=true)->(∃x,x<n/\p x=true/\q x=false)->uM q n<uM p n|0,_,h=>by{obtain⟨x,c,_⟩:=h;omega}|n+1,h,c=>by obtain⟨x,_,b,a⟩:=c;have f:=VQ p q n (λx c=>h x aA);simp only[uM];by_cases e:x=n;subst e;simp[b,a];omega;have d:=VR p q n (λx c=>h x aA) ⟨x,aA,b,a⟩;have g:=h n aA;exact ZiK
end Ar
namespace Ar
def U6(a:Int):Int:=if a=0 then 0 else 3-a
def dP(a b:Int):Int:=if a=2\/b=2 then 2 else if a=1/\b=1 then 1 else 0
def fV(a b:Int):Int:=U6 (dP (U6 a) (U6 b))
def lg(w:List UInt8)(l:List Int):Int :=
 if w=eo then U6 (l.getD 0 0) else if w=mN then fV (U6 (l.getD 0 0)) (l.getD 1 0)
 else if w=eQ then fV (dP (l.getD 0 0) (l.getD 1 0)) (dP (U6 (l.getD 0 0)) (U6 (l.getD 1 0)))
 else if w=gn then l.foldl dP 1 else l.foldl fV 2
mutual
def aT(σ:Nd->Int):Nd->Int
 | .mk k w v ps=>if k=2 then σ (.mk k w v ps) else if k=0 then(if w.toList=iA then 1 else 2) else lg w.toList (nU σ ps)
def nU(σ:Nd->Int):List Nd->List Int
 | []=>[]
 | p::ps=>aT σ p::nU σ ps
end
theorem GZ(σ:Nd->Int)(ps:List Nd):nU σ ps=ps.map (aT σ):=by induction ps with|nil=>(rfl)|cons p ps a=>simp[nU,a]
def fj(t:Int)(b:Bool):Prop:=(t=0\/t=1\/t=2)/\(t=1->b=true)/\(t=2->b=false)
theorem xy{t:Int}{b:Bool}(h:fj t b):fj (U6 t) (!b):=by obtain⟨rfl|rfl|rfl,_,_⟩:=h<;>simp_all[fj,U6]
theorem G1{t s:Int}{b c:Bool}(h:fj t b)(k:fj s c):fj (dP t s) (b&&c):=by obtain⟨rfl|rfl|rfl,_,_⟩:=h<;>obtain⟨rfl|rfl|rfl,_,_⟩:=k<;>simp_all[fj,dP]
theorem M'{t s:Int}{b c:Bool}(h:fj t b)(k:fj s c):fj (fV t s) (b||c):=by have:=xy (G1 (xy h) (xy k));simpa[fV]using this
inductive zD{α β:Type}(R:α -> β->Prop):List α->List β->Prop
 | nil:zD R [] []
 | cons {a:α} {b:β} {l:List α} {m:List β} (h:R a b) (t:zD R l m):zD R (a::l) (b::m)
theorem jl7{l:List Int}{bs:List Bool}:∀{t:Int}{b:Bool},fj t b->zD fj l bs->fj (l.foldl dP t) (b&&bs.all id):=by induction l generalizing bs with|nil=>(intro t b h a;cases a;simpa using h)|cons x l c=>intro t b h a;cases a with|cons d a=>rename_i y ys;have:=c (G1 h d) a;simpa[Bool.and_assoc]using this
theorem jl8{l:List Int}{bs:List Bool}:∀{t:Int}{b:Bool},fj t b->zD fj l bs->fj (l.foldl fV t) (b||bs.any id):=by induction l generalizing bs with|nil=>(intro t b h a;cases a;simpa using h)|cons x l c=>intro t b h a;cases a with|cons d a=>rename_i y ys;have:=c (M' h d) a;simpa[Bool.or_assoc]using this
theorem VS{σ:Nd->Int}{α:Nd->Bool}:∀{ps:List Nd},(∀p∈ps,fj (aT σ p) (bq α p))->zD fj (ps.map (aT σ)) (ps.map (bq α))|[],_=>.nil|p::ps,h=>.cons (h p aC) (VS (λq a=>h q (by simp[a])))
theorem xz{a:Int}(h:a=1\/a=2):U6 a=1\/U6 a=2:=by rcases h with rfl|rfl<;>decide
theorem G2{a b:Int}(h:a=1\/a=2)(k:b=1\/b=2):dP a b=1\/dP a b=2:=by rcases h with rfl|rfl<;>rcases k with rfl|rfl<;>decide
theorem Na{a b:Int}(h:a=1\/a=2)(k:b=1\/b=2):fV a b=1\/fV a b=2:=xz (G2 (xz h) (xz k))
theorem Nb{f:Int->Int->Int}(c:∀a b,(a=1\/a=2)->(b=1\/b=2)->f a b=1\/f a b=2):∀{l:List Int}{t:Int},(t=1\/t=2)->(∀x∈l,x=1\/x=2)->l.foldl f t=1\/l.foldl f t=2|[],_,h,_=>h|x::l,t,h,hl=>Nb c (l:=l) (c t x h (hl x aC)) (λy hy=>hl y E4)
theorem Nc{σ:Nd->Int}{α:Nd->Bool}{f:Nd}(r:dy f):(∀x∈Z1 false f,fj (σ x) (α x))->fj (aT σ f) (bq α f):=by induction r with|truth a=>(intro _;rcases a with a|a;simp[aT,bq,a,fj];have e:¬jr=iA:=aE;simp[aT,bq,a,fj,e])| @neg w p a _ k=>(intro h;have:=xy (k λx hx=>h x rM);simpa[aT,nU,bq,xu,lg,con,a]using this)| @imp w p q a _ _ i j=>(intro h;have d:=i λx hx=>h x rM;have c:=j λx hx=>h x rM;rcases a with a|a;have g:¬mN=eo:=aE;have:=M' (xy d) c;simpa[aT,nU,bq,xu,lg,con,a,g,show[61,62]=mN from rfl]using this;have g:¬eQ=eo:=aE;have l:¬eQ=mN:=aE;have:=M' (G1 d c) (G1 (xy d) (xy c));have o:(bq α p==bq α q)=((bq α p&&bq α q)||(!(bq α p)&& !(bq α q))):=by{cases bq α p<;>cases bq α q<;>rfl};simp only[aT,nU,bq,xu,lg,con,a];rw[if_neg aE,if_neg aE,if_neg g,if_neg l,if_pos trivial,if_neg aE,if_neg aE,if_neg g,if_neg (show ¬eQ=[61,62]from l),if_pos trivial];simp only[List.getD_cons_zero,List.getD_cons_succ,o];exact cS)| @many w ps a _ k=>(intro h;have n:=VS (σ:=σ) (α:=α) (ps:=ps) λp m=>k p m λx hx=>h x (by simp only[Z1];exact List.mem_append_right _ (Z9.2 ⟨p,m,hx⟩));simp only[aT,GZ,bq,MH];rw[if_neg aE,if_neg aE,if_neg aE,if_neg aE];rcases a with a|a;have e:=jl7 (t:=1) (b:=true) (by simp[fj]) n;rw[a];simp only[lg,con];rw[if_neg aE,if_neg aE,if_neg aE,if_pos trivial,if_neg aE,if_neg aE,if_neg aE,if_neg aE];exact my;have e:=jl8 (t:=2) (b:=false) (by simp[fj]) n;rw[a];simp only[lg,con];rw[if_neg aE,if_neg aE,if_neg aE,if_neg aE,if_neg aE,if_neg aE,if_neg aE,if_pos trivial];exact my)|two a s hb=>(intro h;simp only[aT,bq,if_pos];exact h _ yy)|le a s hb d c=>intro h;simp only[aT,bq,if_pos];exact h _ yy
theorem jl9{σ:Nd->Int}{f:Nd}(o:dy f):(∀x∈Z1 false f,σ x=1\/σ x=2)->aT σ f=1\/aT σ f=2:=by induction o with| @truth w c=>(intro _;simp only[aT];rw[if_neg aE,if_pos trivial];split<;>simp)| @neg w p c _ k=>(intro h;have:=xz (k λx hx=>h x rM);simpa[aT,nU,lg,c]using this)| @imp w p q c _ _ g i=>(intro h;have e:=g λx hx=>h x rM;have d:=i λx hx=>h x rM;rcases c with c|c;have j:¬mN=eo:=aE;have:=Na (xz e) d;simpa[aT,nU,lg,c,j]using this;have j:¬eQ=eo:=aE;have n:¬eQ=mN:=aE;have:=Na (G2 e d) (G2 (xz e) (xz d));simpa[aT,nU,lg,c,j,n]using this)| @many w ps c _ k=>(intro h;have m:∀x∈ps.map (aT σ),x=1\/x=2:=by{intro x hx;obtain⟨p,l,rfl⟩:=List.mem_map.1 hx;exact k p l λy r=>h y (by simp only[Z1];exact List.mem_append_right _ (Z9.2 ⟨p,l,r⟩))};simp only[aT,GZ];rw[if_neg aE,if_neg aE];rcases c with c|c;rw[c];simp only[lg];rw[if_neg aE,if_neg aE,if_neg aE,if_pos trivial];exact Nb (λa b=>G2) (.inl rfl) m;rw[c];simp only[lg];rw[if_neg aE,if_neg aE,if_neg aE,if_neg aE];exact Nb (λa b=>Na) (.inr rfl) m)|two c s hb=>(intro h;simp only[aT,if_pos];exact h _ yy)|le c s hb e d=>intro h;simp only[aT,if_pos];exact h _ yy
end Ar
namespace Ar
def CH(u:Nat->Int)(c:List (List Ed)):Prop:=∃ a∈c,cN a u
theorem uN{l m:List Ed}{u:Nat->Int}:cN (l++m) u↔cN l u/\cN m u:=⟨λh=>⟨λe a=>h e (rV _ a),λe a=>h e (BJ _ a)⟩,λh e a=>(ct.1 a).elim (h.1 e) (h.2 e)⟩
def lQ(z i:Nat):Nd->List Ed
 | .mk k _ v _=>if k=4 then [⟨i,z,v⟩,⟨z,i,-v⟩] else []
def dG(z:Nat):Nat->List Nd->List Ed
 | _,[]=>[]
 | i,x::xs=>lQ z i x++dG z (i+1) xs
theorem VT(z:Nat)(x:Nd):∀(xs:List Nd)(i:Nat),dG z i (xs++[x])=dG z i xs++lQ z (i+xs.length) x|[],i=>by{simp[dG]}|y::ys,i=>by simp[dG,VT z x ys (i+1)];exact kv
theorem Nf{z:Nat}{u:Nat->Int}:∀{xs:List Nd}{i:Nat},cN (dG z i xs) u↔∀(j:Nat)(w:ByteArray)(n:Int)(ps:List Nd),xs[j]?=some (.mk 4 w n ps)->u (i+j)-u z=n|[],i=>by{simp[dG,cN]}|.mk k w v ps::xs,i=>by rw[dG,uN,Nf (xs:=xs)];constructor;{rintro⟨h1,h2⟩j w' n qs hj;cases j with|zero=>(simp at hj;obtain⟨rfl,rfl,rfl,rfl⟩:=hj;have a:=h1 ⟨i,z,v⟩ (by simp[lQ]);have b:=h1 ⟨z,i,-v⟩ (by simp[lQ]);simp at a b⊢;omega)|succ j=>have:=h2 j w' n qs K4;rw[show i+(j+1)=i+1+j by omega];exact this};intro h;refine⟨?_,λj w' n qs hj=>?_⟩;{intro e he;simp only[lQ]at he;split at he;{rename_i hk;subst hk;have:=h 0 w v ps aC;simp at he this;rcases he with rfl|rfl<;>(simp;omega)};simp at he};have:=h (j+1) w' n qs K4;rw[show i+(j+1)=i+1+j by omega]at this;exact cS
def lR(a b:Nat)(w:List UInt8)(c:Int)(d:Bool):List Ed :=
 if w=[61] then(if d=true then [⟨a,b,0⟩,⟨b,a,0⟩] else []) else if d=true then [⟨a,b,if w=[60] then -1 else c⟩] else [⟨b,a,-(if w=[60] then -1 else c)-1⟩]
def lS(a b:Nat)(w:List UInt8)(c:Bool):List (List (List Ed)):=if w=[61] then(if c=true then [] else [[[⟨a,b,-1⟩],[⟨b,a,-1⟩]]]) else []
theorem VU{a b:Nat}{w:List UInt8}{c:Int}{e:Bool}{u:Nat->Int}(i:w=[60,61]->c=0):(cN (lR a b w c e) u/\∀d∈lS a b w e,CH u d)↔fC w (u a) (u b) c=e:=by
 by_cases g:w=[61];subst g;cases e with|true=>(simp only[lR,lS,fC,aJ,cN,oz,List.not_mem_nil,or_false,forall_eq_or_imp,forall_eq,false_implies,implies_true,and_true,BF];omega)|false=>simp only[lR,lS,fC,aJ,cN,CH];simp;omega
 by_cases f:w=[60];subst f;cases e<;>simp[lR,lS,fC,cN]<;>omega;by_cases h:w=[60,61];subst h;have:=i rfl;subst this;cases e<;>simp[lR,lS,fC,cN]<;>omega;cases e<;>simp[lR,lS,fC,cN,g,f,h]<;>omega
theorem VV(w:List UInt8)(a b c z:Int):fC w (a-z) (b-z) c=fC w a b c:=Zg9
noncomputable def mQ(T:List Nd)(x:Nd)(c:Bool):List Ed :=
 match x with
 | .mk _ w _ (a::b::r)=>lR (idx T a) (idx T b) w.toList (dm r) c
 | _=>[]
noncomputable def nV(T:List Nd)(x:Nd)(c:Bool):List (List (List Ed)) :=
 match x with
 | .mk _ w _ (a::b::_)=>lS (idx T a) (idx T b) w.toList c
 | _=>[]
noncomputable def valOf(T:List Nd)(u:Nat->Int):Nd->Int:=fun x=>u (idx T x)-u T.length
theorem G3{T:List Nd}{x:Nd}{a:Bool}{u:Nat->Int}(f:dN x):(cN (mQ T x a) u/\∀d∈nV T x a,CH u d)↔iF (valOf T u) x=a:=by cases f with|two b c hb=>(simp only[mQ,nV,iF,valOf,VV];exact VU (λ_=>rfl))|le b c hb h g=>simp only[mQ,nV,iF,valOf,VV];exact VU (λe=>by rw[b]at e;exact absurd e aE)
noncomputable def lT(T:List Nd)(i k:Nat)(ps qs:List Nd):List (List Ed) :=
 [⟨i,k,0⟩,⟨k,i,0⟩]::(ps.zip qs).flatMap (fun p=>[[⟨idx T p.1,idx T p.2,-1⟩],[⟨idx T p.2,idx T p.1,-1⟩]])
theorem Ng{T:List Nd}{i k:Nat}{u:Nat->Int}:∀{ps qs:List Nd},ps.length=qs.length->(CH u (lT T i k ps qs)↔(ps.map (valOf T u)=qs.map (valOf T u)->u i=u k)):=by
 intro ps qs hl;have d:CH u ((ps.zip qs).flatMap (λp=>[[⟨idx T p.1,idx T p.2,-1⟩],[⟨idx T p.2,idx T p.1,-1⟩]]))↔¬ps.map (valOf T u)=qs.map (valOf T u):=by induction ps generalizing qs with|nil=>(cases qs with|nil=>(simp[CH])|cons _ _=>simp at hl)|cons p ps c=>cases qs with|nil=>(simp at hl)|cons q qs=>have c:=c (qs:=qs) ZcG;unfold CH at c⊢;rw[List.zip_cons_cons,List.flatMap_cons,List.map_cons,List.map_cons,List.cons.injEq,Classical.not_and_iff_not_or_not,<-c];constructor;rintro⟨b,a,hs⟩;rcases List.mem_append.1 a with a|a;left;intro e;simp[valOf]at e;simp at a;rcases a with rfl|rfl;exact ZhU;exact ZhU;exact .inr ⟨b,a,hs⟩;rintro(h|⟨b,a,hs⟩);have l:¬u (idx T p)=u (idx T q):=λe=>h (by simp[valOf,e]);by_cases f:u (idx T p)<u (idx T q);refine⟨_,List.mem_append_left _ (List.mem_cons_self),λe he=>?_⟩;exact ZjS;refine⟨_,List.mem_append_left _ (List.mem_cons_of_mem _ (List.mem_singleton.2 rfl)),λe he=>?_⟩;exact ZjS;exact⟨b,List.mem_append_right _ a,hs⟩
 unfold CH at d⊢;unfold lT;constructor;rintro⟨b,a,hs⟩he;rcases oz.1 a with rfl|a;have j:=hs _ tJ;have g:=hs _ (eO _ (rW.2 rfl));simp at j g;omega;exact absurd he (d.1 ⟨b,a,hs⟩);intro h;by_cases he:ps.map (valOf T u)=qs.map (valOf T u);have m:=h he;refine⟨_,tJ,λe a=>?_⟩;simp at a;rcases a with rfl|rfl<;>(simp;omega);obtain⟨b,a,hs⟩:=d.2 he;exact⟨b,eO _ a,hs⟩
noncomputable def lh(T:List Nd)(i k:Nat):Nd->Nd->List (List (List Ed))
 | .mk kx wx _ ps,.mk ky wy _ qs=>if kx=3/\ky=3/\wx=wy/\ps≠[] then [lT T i k ps qs] else []
noncomputable def jc(T:List Nd)(i:Nat)(x:Nd):Nat->List Nd->List (List (List Ed))
 | _,[]=>[]
 | k,y::ys=>lh T i k x y++jc T i x (k+1) ys
theorem VW(T:List Nd)(i:Nat)(x y:Nd):∀(ys:List Nd)(k:Nat),jc T i x k (ys++[y])=jc T i x k ys++lh T i (k+ys.length) x y|[],k=>by{simp[jc]}|z::ys,k=>by simp[jc,VW T i x y ys (k+1)];exact kv
noncomputable def eD(T:List Nd):Nat->List (List (List Ed))
 | 0=>[]
 | n+1=>eD T n++(match T[n]? with|some x=>jc T n x 0 (T.take n)|none=>[])
theorem Nh{T:List Nd}{i:Nat}{x:Nd}{c:List (List Ed)}:∀{ys:List Nd}{k:Nat},c∈jc T i x k ys↔∃j y,ys[j]?=some y/\c∈lh T i (k+j) x y|[],k=>by{simp[jc]}|y::ys,k=>by rw[jc,ct,Nh (ys:=ys)];constructor;rintro(h|⟨j,z,hj,h⟩);exact⟨0,y,aC,ov⟩;exact⟨j+1,z,K4,by rw[show k+(j+1)=k+1+j by omega];exact h⟩;rintro⟨j,z,hj,h⟩;cases j with|zero=>(simp at hj;subst hj;exact .inl ov)|succ j=>exact .inr ⟨j,z,K4,by rw[show k+1+j=k+(j+1)by omega];exact h⟩
theorem CI{T:List Nd}{c:List (List Ed)}:∀{n:Nat},c∈eD T n↔∃i k x y,i<n/\k<i/\T[i]?=some x/\T[k]?=some y/\c∈lh T i k x y|0=>by{simp[eD]}|n+1=>by rw[eD,ct,CI (n:=n)];constructor;rintro(⟨i,k,x,y,l,h⟩|h);exact⟨i,k,x,y,aA,h⟩;split at h;rename_i x d;obtain⟨j,y,b,h⟩:=Nh.1 h;have a:j<n:=by{by_cases e:j<n;exact e;rw[iQ nC]at b;exact absurd b aC};rw[BG a]at b;exact⟨n,j,x,y,aA,a,d,b,ov⟩;exact gK;rintro⟨i,k,x,y,l,f,d,g,h⟩;by_cases e:i=n;subst e;right;rw[d];exact Nh.2 ⟨k,y,by rw[BG f];exact g,ov⟩;exact .inl ⟨i,k,x,y,aA,f,d,g,h⟩
def uO(T:List Nd):Prop:=∀ w ps qs,.mk 3 w 0 ps∈T->.mk 3 w 0 qs∈T->ps.length=qs.length
theorem VX{T:List Nd}{u:Nat->Int}(t:T.Nodup)(d:uO T)(f:∀x∈T,Y2 x):(∀c∈eD T T.length,CH u c)↔∀w ps qs,.mk 3 w 0 ps∈T->.mk 3 w 0 qs∈T->ps.map (valOf T u)=qs.map (valOf T u)->valOf T u (.mk 3 w 0 ps)=valOf T u (.mk 3 w 0 qs):=by
 constructor;intro h w ps qs r q m;have l:=d w ps qs r q;by_cases p:ps=[];subst p;have:qs=[]:=rR (by simpa using l.symm);rw[this];by_cases z:idx T (.mk 3 w 0 ps)=idx T (.mk 3 w 0 qs);rw[zm r q z];have g:=k8 r;have j:=k8 q;have D:idx T (.mk 3 w 0 ps)<T.length:=by by_cases e:idx T (.mk 3 w 0 ps)<T.length;exact e;rw[iQ aA]at g;exact absurd g aC
 have B:idx T (.mk 3 w 0 qs)<T.length:=by by_cases e:idx T (.mk 3 w 0 qs)<T.length;exact e;rw[iQ aA]at j;exact absurd j aC
 by_cases n:idx T (.mk 3 w 0 qs)<idx T (.mk 3 w 0 ps);have:=h (lT T (idx T (.mk 3 w 0 ps)) (idx T (.mk 3 w 0 qs)) ps qs) (CI.2 ⟨_,_,_,_,D,n,g,j,by simp[lh,p]⟩);have:=(Ng l).1 this m;simp only[valOf];omega;have s:qs≠[]:=λe=>p (rR (by rw[l,e];rfl));have:=h (lT T (idx T (.mk 3 w 0 qs)) (idx T (.mk 3 w 0 ps)) qs ps) (CI.2 ⟨_,_,_,_,B,aA,j,g,by simp[lh,s]⟩);have:=(Ng l.symm).1 this m.symm;simp only[valOf];omega;intro h c b;obtain⟨i,k,x,y,z,L,A,v,b⟩:=CI.1 b;have mx:=bg A;have o:=bg v;have ix:=xt t A;have F:=xt t v;cases x with|mk J M C ps=>cases y with|mk K I H qs=>simp only[lh]at b;split at b;rename_i a;obtain⟨rfl,rfl,rfl,_⟩:=a;have E:C=0:=by{cases f _ mx;rfl};have G:H=0:=by{cases f _ o;rfl};subst E G;rw[rW]at b;subst b;refine(Ng (d _ _ _ mx o)).2 λm=>?_;have:=h _ _ _ mx o m;simp only[valOf,ix,F]at this;omega;simp at b
noncomputable def fD(T:List Nd)(D:List (Nd × Bool)):List Ed:=dG T.length 0 T++D.flatMap (fun d=>mQ T d.1 d.2)
noncomputable def fW(T:List Nd)(D:List (Nd × Bool)):List (List (List Ed)):=D.flatMap (fun d=>nV T d.1 d.2)
def zE(T:List Nd)(D:List (Nd × Bool))(v:Nd->Int):Prop:=Good T v/\∀ d∈D,iF v d.1=d.2
theorem G4{α:Type}{f:α->List Ed}{u:Nat->Int}:∀{l:List α},cN (l.flatMap f) u↔∀x∈l,cN (f x) u|[]=>by{simp[cN]}|x::l=>by rw[BK,uN,G4 (l:=l)];simp
theorem jB8{T:List Nd}{u:Nat->Int}(h:cN (dG T.length 0 T) u):∀n,.mk 4 ByteArray.empty n []∈T->valOf T u (.mk 4 ByteArray.empty n [])=n:=by intro n a;have:=Nf.1 h (idx T (.mk 4 ByteArray.empty n [])) _ n _ (k8 a);simpa[valOf]using this
theorem VY{T:List Nd}{v:Nd->Int}(g:Good T v)(a:∀x∈T,Y2 x)(u:Nat->Int)(d:∀i x,T[i]?=some x->u i=v x)(f:u T.length=0):cN (dG T.length 0 T) u:=by
 refine Nf.2 λj w n ps c=>?_;have b:=bg c;have e:(Nd.mk 4 w n ps)=.mk 4 ByteArray.empty n []:=by cases a _ b;rfl
 rw[e]at c b;have:=d j _ c;rw[oy,f,this,g.num n b];omega
noncomputable def p7(T:List Nd)(v:Nd->Int):Nat->Int:=fun i=>match T[i]? with|some x=>v x|none=>0
theorem CJ{T:List Nd}{v:Nd->Int}{x:Nd}(a:x∈T):valOf T (p7 T v) x=v x:=by simp only[valOf,p7,k8 a];rw[iQ (aW _)];simp
theorem Ni{T:List Nd}{v:Nd->Int}{x:Nd}(b:∀p∈(J6 x).take 2,p∈T):iF (valOf T (p7 T v)) x=iF v x:=MI λp a=>CJ (b p a)
theorem qS0{T:List Nd}{D:List (Nd×Bool)}(q:T.Nodup)(g:uO T)(b:∀x∈T,Y2 x)(k:∀x∈T,∀p∈J6 x,p∈T)(h:∀d∈D,dN d.1/\∀p∈(J6 d.1).take 2,p∈T):(∃u,cN (fD T D) u/\∀c∈fW T D++eD T T.length,CH u c)↔∃v,zE T D v:=by constructor;rintro⟨u,j,i⟩;unfold fD at j;rw[uN,G4]at j;refine⟨valOf T u,⟨jB8 j.1,(VX q g b).1 λc k=>i c (BJ _ k)⟩,λd hd=>?_⟩;refine(G3 (h d hd).1).1 ⟨j.2 d hd,λe n=>i e (rV _ ?_)⟩;exact tQ.2 ⟨d,hd,n⟩;rintro⟨v,o,r⟩;refine⟨p7 T v,?_,?_⟩;unfold fD;rw[uN,G4];refine⟨VY o b _ (λ_ x t=>by simp[p7,t]) (by simp[p7]),λd hd=>?_⟩;exact((G3 (h d hd).1).2 ((Ni (h d hd).2).trans (r d hd))).1;intro c f;rcases ct.1 f with f|f;obtain⟨d,hd,f⟩:=tQ.1 f;exact((G3 (h d hd).1).2 ((Ni (h d hd).2).trans (r d hd))).2 c f;refine(VX q g b).2 (λw ps qs m l n=>?_) c f;rw[CJ m,CJ l];refine o.fn w ps qs m l ?_;have y:ps.map (valOf T (p7 T v))=ps.map v:=Fl λp a=>CJ (k _ m p a);have s:qs.map (valOf T (p7 T v))=qs.map v:=Fl λp a=>CJ (k _ l p a);rw[<-y,<-s];exact n
theorem qG7{T:List Nd}{D:List (Nd×Bool)}{v:Nd->Int}(a:∀x∈T,Y2 x)(b:∀d∈D,dN d.1/\∀p∈(J6 d.1).take 2,p∈T)(h:zE T D v):cN (fD T D) (p7 T v):=by unfold fD;rw[uN,G4];refine⟨VY h.1 a _ (λ_ x c=>by simp[p7,c]) (by simp[p7]),λd hd=>?_⟩;exact((G3 (b d hd).1).2 ((Ni (b d hd).2).trans (h.2 d hd))).1
end Ar
namespace Ar
def uP:Option Bool->Int
 | some true=>1
 | some false=>2
 | none=>0
noncomputable def sg(A:List Nd)(bs:List Bool)(x:Nd):Int:=uP bs[idx A x]?
def O7(n:Nat)(bs:List Bool):List Int:=bs.map (fun b=>if b then 1 else 2)++List.replicate (n-bs.length) 0
def Pt(T A L:List Nd)(bs:List Bool):Prop:=∃ v,zE T (A.zip bs) v/\∀ f∈L,bq (iF v) f=true
structure fK(T A L:List Nd):Prop where
 tn:T.Nodup
 an:A.Nodup
 ok:∀ f∈L,dy f
 tm:∀ x,x∈T↔∃ f∈L,x∈Z1 true f
 am:∀ x,x∈A↔∃ f∈L,x∈Z1 false f
 ar:uO T
section
variable{T A L:List Nd}
theorem fK.tok(h:fK T A L):∀x∈T,Y2 x:=by intro x a;obtain⟨f,b,a⟩:=(h.tm x).1 a;exact(uF (h.ok f b).ok).1 x a
theorem fK.Nj(h:fK T A L):∀x∈A,dN x:=by intro x a;obtain⟨f,b,a⟩:=(h.am x).1 a;exact(uF (h.ok f b).ok).2 x a
theorem fK.Nk(h:fK T A L):∀x∈T,∀p∈J6 x,p∈T:=by intro x a p c;obtain⟨f,b,a⟩:=(h.tm x).1 a;exact(h.tm p).2 ⟨f,b,Vb (h.ok f b).ok x a p c⟩
theorem fK.VZ(h:fK T A L):∀x∈A,∀p∈(J6 x).take 2,p∈T:=by intro x a p c;obtain⟨f,b,a⟩:=(h.am x).1 a;exact(h.tm p).2 ⟨f,b,Vc (h.ok f b).ok x a p c⟩
theorem fK.G5(h:fK T A L)(bs:List Bool):∀d∈A.zip bs,dN d.1/\∀p∈(J6 d.1).take 2,p∈T:=by intro d hd;have c:d.1∈A:=(List.of_mem_zip (a:=d.1) (b:=d.2) hd).1;exact⟨h.Nj _ c,h.VZ _ c⟩
theorem jB9{bs:List Bool}{v:Nd->Int}(c:zE T (A.zip bs) v){x:Nd}(e:x∈A):fj (sg A bs x) (iF v x):=by unfold sg;have d:=k8 e;match hb:bs[idx A x]? with|none=>{exact⟨.inl rfl,SD,SD⟩}|some b=>have a:(x,b)∈A.zip bs:=bg (i:=idx A x) (by rw[List.getElem?_zip_eq_some];exact⟨d,hb⟩);have:=c.2 _ a;cases b;exact⟨.inr (.inr rfl),SD,λ_=>this⟩;exact⟨.inr (.inl rfl),λ_=>this,SD⟩
theorem V0(h:fK T A L){bs:List Bool}{v:Nd->Int}(b:zE T (A.zip bs) v){f:Nd}(a:f∈L):fj (aT (sg A bs) f) (bq (iF v) f):=Nc (h.ok f a) λx c=>jB9 b ((h.am x).2 ⟨f,a,c⟩)
theorem jC0(h:fK T A L){bs:List Bool}{f:Nd}(a:f∈L)(d:aT (sg A bs) f=2):¬Pt T A L bs:=by rintro⟨_,c,e⟩;have b:=(V0 h c a).2.2 d;rw[e f a]at b;exact absurd b aE
theorem jP2(h:fK T A L){bs:List Bool}(d:∀f∈L,aT (sg A bs) f=1):Pt T A L bs↔∃u,cN (fD T (A.zip bs)) u/\∀c∈fW T (A.zip bs)++eD T T.length,CH u c:=by rw[qS0 h.tn h.ar h.tok h.Nk (h.G5 bs)];constructor;rintro⟨v,a,_⟩;exact⟨v,a⟩;rintro⟨v,a⟩;exact⟨v,a,λf b=>(V0 h a b).2.1 (d f b)⟩
theorem jZ2(h:fK T A L){bs:List Bool}(a:Pt T A L bs):∃u,cN (fD T (A.zip bs)) u:=by obtain⟨_,b,_⟩:=a;exact⟨_,qG7 h.tok (h.G5 bs) b⟩
theorem jC1(h:fK T A L){bs:List Bool}(hb:bs.length=A.length){f:Nd}(c:f∈L):aT (sg A bs) f=1\/aT (sg A bs) f=2:=by
 refine jl9 (h.ok f c) λx b=>?_;have b:=(h.am x).2 ⟨f,c,b⟩;have d:=k8 b;have a:idx A x<bs.length:=by rw[hb];by_cases e:idx A x<A.length;exact e;rw[iQ aA]at d;exact absurd d aC
 unfold sg;rw[aU a];cases bs[idx A x]<;>simp[uP]
theorem V3(h:fK T A L){bs:List Bool}{f:Nd}(a:f∈L):aT (sg A bs) f=0\/aT (sg A bs) f=1\/aT (sg A bs) f=2:=by
 have c:∀x∈Z1 false f,fj (sg A bs x) (decide (sg A bs x=1)):=by intro x _;have b:sg A bs x=0\/sg A bs x=1\/sg A bs x=2:=by{unfold sg uP;split<;>simp};refine⟨b,aC,λe=>tC⟩
 exact(Nc (h.ok f a) c).1
theorem G6{bs:List Bool}{x:Nd}{b:Bool}(hx:A[bs.length]?=some x):A.zip (bs++[b])=A.zip bs++[(x,b)]:=by
 have hl:bs.length<A.length:=(aX.1 hx).1
 conv=>lhs;rw[<- iP bs.length A]
 conv=>rhs;rw[<- iP bs.length A]
 have e:A.drop bs.length=x::A.drop (bs.length+1):=by
  rw[qB hl,(aX.1 hx).2]
 rw[List.zip_append (by rw[dd];omega),e]
 have e2:(A.take bs.length++x::A.drop (bs.length+1)).zip bs=(A.take bs.length).zip bs:=by
  have e3:=List.zip_append (l₁:=A.take bs.length) (r₁:=x::A.drop (bs.length+1)) (l₂:=bs) (r₂:=[]) (by rw[dd];omega)
  simpa using e3
 rw[e2]
 simp
theorem jC2{bs:List Bool}{x:Nd}(a:A[bs.length]?=some x):Pt T A L bs↔Pt T A L (bs++[true])\/Pt T A L (bs++[false]):=by unfold Pt;rw[G6 a,G6 a];constructor;rintro⟨v,hv,ht⟩;by_cases e:iF v x=true;refine .inl ⟨v,⟨hv.1,λd hd=>?_⟩,ht⟩;rcases ct.1 hd with hd|hd;exact hv.2 d hd;simp at hd;subst hd;exact e;refine .inr ⟨v,⟨hv.1,λd hd=>?_⟩,ht⟩;rcases ct.1 hd with hd|hd;exact hv.2 d hd;simp at hd;subst hd;exact my;rintro(⟨v,hv,ht⟩|⟨v,hv,ht⟩);exact Zhd;exact Zhd
theorem jZ3(h:fK T A L):Pt T A L []↔Sat L:=by rw[jO9 h.tm (λf c=>(h.ok f c).ok)];unfold Pt zE;constructor;rintro⟨v,a,b⟩;exact⟨v,a.1,b⟩;rintro⟨v,a,b⟩;exact⟨v,⟨a,aC⟩,b⟩
theorem qS1{bs:List Bool}{x:Nd}{b:Bool}(a:A[bs.length]?=some x):fD T (A.zip (bs++[b]))=fD T (A.zip bs)++mQ T x b:=by unfold fD;rw[G6 a];simp
theorem qw6{bs:List Bool}{x:Nd}{b:Bool}(a:A[bs.length]?=some x):fW T (A.zip (bs++[b]))=fW T (A.zip bs)++nV T x b:=by unfold fW;rw[G6 a];simp
end
/-! ### Choosing -/
def uQ(l:List Ed)(cs:List (List (List Ed))):Prop:=∃ u,cN l u/\∀ c∈cs,CH u c
open Classical in
noncomputable def zF(l:List Ed)(cs:List (List (List Ed))):Nat:=cs.countP (fun c=>decide (¬∃ a∈c,∀ e∈a,e∈l))
theorem V'{α:Type}{p q:α->Bool}:∀{l:List α},(∀x∈l,p x=true->q x=true)->(∃x∈l,p x=false/\q x=true)->l.countP p<l.countP q|[],_,h=>by{obtain⟨x,a,_⟩:=h;simp at a}|x::l,h,a=>by rw[List.countP_cons,List.countP_cons];have e:l.countP p<=l.countP q:=List.countP_mono_left (λy hy=>h y E4);obtain⟨y,hy,c,b⟩:=a;rcases oz.1 hy with rfl|hy;rw[c,b];exact aM;have:=V' (λz d=>h z (by simp[d])) ⟨y,hy,c,b⟩;have:=h x aC;cases f:p x<;>cases g:q x<;>simp_all<;>omega
theorem Nl{l:List Ed}{cs:List (List (List Ed))}{c:List (List Ed)}{a:List Ed}{u:Nat->Int}(i:cN l u)(j:c∈cs)(k:¬CH u c)(g:a∈c):zF (l++a) cs<zF l cs:=by classical refine V' (λ_ _ h=>?_) ⟨c,j,?_,?_⟩;simp only[BF]at h⊢;rintro⟨y,d,f⟩;exact h ⟨y,d,λe b=>rV _ (f e b)⟩;simp only[decide_eq_false_iff_not,Classical.not_not];exact⟨a,g,λe b=>BJ _ b⟩;simp only[BF];rintro⟨y,d,f⟩;exact k ⟨y,d,λe b=>i e (f e b)⟩
theorem Wa{l:List Ed}{cs:List (List (List Ed))}{c:List (List Ed)}(f:c∈cs):uQ l cs↔∃a∈c,uQ (l++a) cs:=by constructor;rintro⟨u,b,h⟩;obtain⟨a,d,e⟩:=h c f;exact⟨a,d,u,uN.2 ⟨b,e⟩,h⟩;rintro⟨a,d,u,b,h⟩;exact⟨u,(uN.1 b).1,h⟩
end Ar
namespace Ar
mutual
noncomputable def db(t:Bool):List Nd->Nd->List Nd
 | X,.mk k w v ps=>if Y3 t k=true then dj (bo t X ps) (.mk k w v ps) else bo t X ps
noncomputable def bo(t:Bool):List Nd->List Nd->List Nd
 | X,[]=>X
 | X,p::ps=>bo t (db t X p) ps
end
theorem jm0(t:Bool)(X:List Nd)(ps:List Nd)(p:Nd):bo t X (ps++[p])=db t (bo t X ps) p:=by induction ps generalizing X with|nil=>(simp[bo])|cons q qs a=>simp[bo,a]
mutual
theorem Nn(t:Bool):∀ (x:Nd) (X:List Nd) (y:Nd),y∈db t X x↔y∈X\/y∈Z1 t x
 | .mk k w v ps,X,y=>by
  simp only[db,Z1,ct]
  split
  ·rw[sC,xA t ps X y]
   constructor
   ·rintro((h|h)|h)
    ·exact .inl h
    ·exact .inr (.inr h)
    ·exact .inr (.inl (by simp[h]))
   ·rintro(h|h|h)
    ·exact .inl (.inl h)
    ·exact .inr (by simpa using h)
    ·exact .inl (.inr h)
  ·rw[xA t ps X y]
   simp
theorem xA(t:Bool):∀ (ps:List Nd) (X:List Nd) (y:Nd),y∈bo t X ps↔y∈X\/y∈z8 t ps
 | [],X,y=>by simp[bo,z8]
 | p::ps,X,y=>by
  simp only[bo,z8,ct]
  rw[xA t ps _ y,Nn t p X y]
  constructor
  ·rintro((h|h)|h)
   ·exact .inl h
   ·exact .inr (.inl h)
   ·exact .inr (.inr h)
  ·rintro(h|h|h)
   ·exact .inl (.inl h)
   ·exact .inl (.inr h)
   ·exact .inr h
end
mutual
theorem No(t:Bool):∀ (x:Nd) (X:List Nd),X.Nodup->(db t X x).Nodup
 | .mk k w v ps,X,h=>by
  simp only[db]
  split
  ·exact zl (xB t ps X h)
  ·exact xB t ps X h
theorem xB(t:Bool):∀ (ps:List Nd) (X:List Nd),X.Nodup->(bo t X ps).Nodup
 | [],_,h=>h
 | p::ps,X,h=>xB t ps _ (No t p X h)
end
theorem Wb{α:Type}[DecidableEq α]:∀{a b:List α},a.Nodup->(∀x∈a,x∈b)->a.length<=b.length|[],_,_,_=>aC|x::a,b,hn,hs=>by rw[List.nodup_cons]at hn;have c:=hs x aC;have:=Wb (a:=a) (b:=b.erase x) hn.2 (λy hy=>(List.mem_erase_of_ne (a:=y) (b:=x) (λe=>hn.1 (by rw[<-e];exact hy))).2 (hs y E4));rw[Lq c]at this;have d:0<b.length:=Lr c;exact aM
open Classical in
theorem Wc{a b:List Nd}(d:a.Nodup)(c:∀x∈a,x∈b):a.length<=b.length:=Wb d c
noncomputable def eE(t:Bool)(L:List Nd):List Nd:=bo t [] L
theorem jP3{L:List Nd}(eM:∀ f∈L,dy f)(xC:uO (eE true L)):fK (eE true L) (eE false L) L where
 tn:=xB true L [] rQ
 an:=xB false L [] rQ
 ok:=eM
 tm:=fun x=>by unfold eE;rw[xA];simp[Z9]
 am:=fun x=>by unfold eE;rw[xA];simp[Z9]
 ar:=xC
end Ar
namespace Ar
theorem Np:∀(M:Nat)(l:List Nat),l.Nodup->(∀q∈l,q<M)->l.length<=M|0,l,_,hl=>by{cases l with|nil=>(simp)|cons a b=>exact absurd (hl a aC) aA}|M+1,l,hn,hl=>by by_cases hm:M∈l;have e:=Lq hm;have:=Np M (l.erase M) (hn.erase M) (λq hq=>Zg8);exact Zcn;have:=Np M l hn (λq hq=>ZgJ);omega
theorem Wd:∀(M:Nat)(l:List Nat),(∀q,q<M->q∈l)->M<=l.length|0,_,_=>aY _|M+1,l,h=>by have hm:=h M aA;have e:=Lq hm;have:=Wd M (l.erase M) (λq _=>by rw[List.mem_erase_of_ne aA];exact h q aA);exact Zcn
def eV(tr:List St)(k:Nat):List Nat:=(List.range k).filter (fun a=>decide (a ∉ tr.map (·.q)))
theorem jD1(tr:List St):eV tr 0=[]:=rfl
theorem We(tr:List St)(k:Nat):eV tr (k+1)=if k∈tr.map (·.q)then eV tr k else eV tr k++[k]:=by unfold eV;rw[BL,List.filter_append];split;rename_i h;simp only[List.filter_cons,List.filter_nil];rw[aF ov];simp;rename_i h;simp only[List.filter_cons,List.filter_nil];rw[aJ ov]
theorem Nq{tr:List St}{k a:Nat}:a∈eV tr k↔a<k/\a∉tr.map (·.q):=by unfold eV;rw[rX,Fh];simp
theorem Nr(tr:List St)(k:Nat):(eV tr k).length<=k:=by unfold eV;exact ZhV
section
variable{F:Fx}{A:List At}{W:Nat}{al l0:Nat->Bool}{tr:List St}{left:List (Nat->Bool)}
theorem cW.Nl(h:cW F A W al tr left l0){a:Nat}(o:a<A.length)(n:a∉tr.map (·.q)):tr.length<A.length:=by
 rcases tL tr.length A.length with b|_;exact b;exfalso;have l:(a::(tr.take A.length).map (·.q)).Nodup:=by rw[List.nodup_cons];refine⟨λf=>n ?_,?_⟩;rw[wC]at f;exact fG f;exact ZbJ
 have g:=Np A.length _ l (λq j=>by rcases oz.1 j with e|e;omega;obtain⟨s,m,rfl⟩:=dn.1 e;obtain⟨k,i⟩:=BM m;obtain⟨d,c⟩:=lO i;exact(h.eU k s c).1 d);simp at g;omega
theorem cW.Zdu(b:∀a,a<A.length->a∈tr.map (·.q)):A.length<=tr.length:=by have:=Wd A.length _ b;exact ku
theorem cW.Zdv(h:cW F A W al tr left l0)(l:tr.length<A.length){last:Nat->Bool}(a:left[left.length-1]?=some last){q:Nat}{yes:Bool}(j:∃x,x<W/\last x=true/\x.testBit q=yes):∃x,x<W/\l0 x=true/\qY tr A.length x/\x.testBit q=yes:=by obtain⟨x,b,d,i⟩:=j;have c:=h.len;obtain⟨f,g⟩:=(h.lf _ _ a x b).1 d;refine⟨x,b,f,λk s _ e=>g k s ?_ e,i⟩;exact Zi4
theorem cW.Zdw(h:cW F A W al tr left l0){last:Nat->Bool}(a:left[left.length-1]?=some last):∃x,x<W/\last x=true:=by obtain⟨x,b,d,f⟩:=h.some_;have c:=h.len;exact⟨x,b,(h.lf _ _ a x b).2 ⟨d,λk s _ e=>f k s aA e⟩⟩
theorem cW.Zdx(h:cW F A W al tr left l0)(p:∀a,a<A.length->a∈tr.map (·.q)){v:Nat->Int}(m:∀y∈cu A tr,y.1.tr v=y.2):∃x,x<W/\al x=true/\nS A v x:=by obtain⟨x,f,l,n⟩:=h.some_;refine⟨x,f,h.sub x f l,λk a g=>?_⟩;have d:=(aX.1 g).1;obtain⟨s,o,e⟩:=dn.1 (p k d);obtain⟨j,b⟩:=BM o;subst e;have c:=(h.eU j s b).2 d;rw[n j s c b];have:=m (jb A s.q,s.yes) (bg (i:=j) (by rw[GS,b];rfl));simp only[jb,g]at this;exact this.symm
end
end Ar
namespace Ar
def enc(P K a b e:Nat):Nat:=(a*(P+1)+b)*K+e
theorem Zd1{P K a b e c:Nat}(h:c<e):enc P K a b c<enc P K a b e:=by unfold enc;omega
theorem jT8{P K a b c e d:Nat}(h:c<b)(g:d<K):enc P K a c d<enc P K a b e:=by unfold enc;have f:(a*(P+1)+c+1)*K<=(a*(P+1)+b)*K:=oC K aA;rw[BN (a*(P+1)+c) 1 K]at f;omega
theorem Zd2{P K a c b d e f:Nat}(h:c<a)(hb:d<=P)(j:f<K):enc P K c d f<enc P K a b e:=by unfold enc;have i:(c+1)*(P+1)<=a*(P+1):=oC _ aA;rw[BN c 1 (P+1)]at i;have g:(c*(P+1)+d+1)*K<=(a*(P+1)+b)*K:=oC K aA;rw[BN (c*(P+1)+d) 1 K]at g;omega
def mx(A:List At):Nat:=A.length+150
def vP(A:List At)(tr:List St):Nat:=3^mx A-lP (mx A) tr
theorem jQ8(A:List At)(tr:List St):vP A tr<=3^mx A:=Nat.sub_le _ _
theorem jm8{A:List At}{tr:List St}(s:St)(h:tr.length<=A.length+144):vP A (tr++[s])<vP A tr:=by have b:=VN (mx A) tr s wk;have a:=GV (mx A) (tr++[s]);unfold vP;omega
theorem jm9{A:List At}{tr:List St}{p:Nat}{s t:St}(h:tr.length<=A.length+145)(b:tr[p]?=some s)(c:s.cr=false)(a:t.cr=true):vP A (tr.take p++[t])<vP A tr:=by have e:=VO (mx A) tr p s t wk b c a;have d:=GV (mx A) (tr.take p++[t]);unfold vP;omega
def lz(A:List At)(W:Nat)(l0:Nat->Bool)(tr:List St)(e:Nat):Nat:=enc (3^mx A) (mx A+20) (uM l0 W) (vP A tr) e
section
variable{F:Fx}{A:List At}{W:Nat}{al l0 l1:Nat->Bool}{tr:List St}{left:List (Nat->Bool)}
theorem QT{e a:Nat}(h:a<e):lz A W l0 tr a<lz A W l0 tr e:=Zd1 h
theorem Kd{e a:Nat}(s:St)(h:tr.length<=A.length+144)(b:a<mx A+20):lz A W l0 (tr++[s]) a<lz A W l0 tr e:=jT8 (jm8 s h) b
theorem qp7{p e a:Nat}{s t:St}(h:tr.length<=A.length+145)(d:tr[p]?=some s)(f:s.cr=false)(c:t.cr=true)(b:a<mx A+20):lz A W l0 (tr.take p++[t]) a<lz A W l0 tr e:=jT8 (jm9 h d f c) b
theorem jD2{B:M3}{same:Nat->Bool}{i:List St}{e l:Nat}(h:cW F A W al tr left l0)(c:∀k,B.has k=true->k<A.length)(o:∀x,x<W->(same x=true↔∀k s,B.has k=true->tr[k]?=some s->x.testBit s.q=s.yes))(b:∀x,x<W->l1 x=(l0 x&& !same x))(p:l<mx A+20)(g:List St):lz A W l1 i l<lz A W l0 g e:=by refine Zd2 (VR l0 l1 W (λx a f=>?_) ?_) (jQ8 _ _) p;rw[b x a]at f;simp only[jo]at f;exact f.1;obtain⟨x,a,j,m⟩:=h.some_;refine⟨x,a,j,?_⟩;have:same x=true:=(o x a).2 (λk s n d=>m k s (c k n) d);rw[b x a,j,this];rfl
end
end Ar
section
namespace Ar
theorem Bd(f:Nat->Nat)(n:Nat):∀k,y8 f (n+k)=y8 f n+y8 (λi=>f (n+i)) k|0=>rfl|k+1=>by have:=Bd f n k;show y8 f (n+k)+f (n+k)=_;exact E3
theorem qG9(f g:Nat->Nat):∀n,y8 (λi=>f i+g i) n=y8 f n+y8 g n|0=>rfl|n+1=>by have:=qG9 f g n;exact E3
theorem QU(f:Nat->Nat):∀n,(∀i,i<n->f i=1)->y8 f n=n|0,_=>rfl|n+1,h=>by have:=QU f n (λi _=>h i aA);have:=h n aA;exact E3
theorem Be(f:Nat->Nat):∀n,(∀i,i<n->f i=0)->y8 f n=0|0,_=>rfl|n+1,h=>by have:=Be f n (λi _=>h i aA);have:=h n aA;exact E3
theorem EE(f:Nat->Nat)(a:∀i,f i<=1):∀n,y8 f n<=n|0=>aW _|n+1=>by have:=EE f a n;have:=a n;exact E3
def jj(G:Nat)(s y:Int):Nat:=if s<y/\y<=s+G then 1 else 0
def nu(G:Nat)(S:List Int)(y:Int):Nat:=if S.any (fun s=>decide (s<y/\y<=s+G))=true then 1 else 0
def ny(G:Nat):List Int->Int->Nat
 | [],_=>0
 | s::S,y=>jj G s y+ny G S y
variable{G:Nat}
theorem Ke(s y:Int):jj G s y<=1:=by unfold jj;exact ow
theorem qS2(S:List Int)(y:Int):nu G S y<=ny G S y:=by induction S with|nil=>(simp[nu,ny])|cons s S a=>simp only[ny];by_cases h:s<y/\y<=s+G;have:jj G s y=1:=by{unfold jj;exact yE};have:nu G (s::S) y<=1:=by{unfold nu;exact ow};omega;have b:nu G (s::S) y=nu G S y:=by{unfold nu;simp[h]};omega
theorem jm1(s m:Int)(n:Nat):y8 (λi=>jj G s (m+1+i)) n<=G:=by
 by_cases h:s<m;obtain⟨k,_⟩:∃k:Nat,(k:Int)=max 0 (s+G-m):=⟨(max 0 (s+G-m)).toNat,aA⟩;have f:k<=G:=aA;by_cases j:n<=k;have:=EE (λi=>jj G s (m+1+i)) (λi=>Ke _ _) n;omega;obtain⟨r,a⟩:∃r,n=k+r:=⟨n-k,aA⟩;rw[a,Bd];have e:=EE (λi=>jj G s (m+1+i)) (λi=>Ke _ _) k;have l:=Be (λi=>jj G s (m+1+((k+i:Nat):Int))) r (λi _=>Lg);omega;obtain⟨d,_⟩:∃d:Nat,(d:Int)=s-m:=⟨(s-m).toNat,aA⟩;by_cases j:n<=d;have:=Be (λi=>jj G s (m+1+i)) n (λi g=>Lg);omega;obtain⟨r,a⟩:∃r,n=d+r:=⟨n-d,aA⟩;rw[a,Bd];have e:=Be (λi=>jj G s (m+1+i)) d (λi g=>Lg);have t:y8 (λi=>jj G s (m+1+((d+i:Nat):Int))) r<=G:=by by_cases b:r<=G;have:=EE (λi=>jj G s (m+1+((d+i:Nat):Int))) (λi=>Ke _ _) r;omega;obtain⟨q,c⟩:∃q,r=G+q:=⟨r-G,aA⟩;rw[c,Bd];have o:=EE (λi=>jj G s (m+1+((d+i:Nat):Int))) (λi=>Ke _ _) G;have p:=Be (λi=>jj G s (m+1+((d+(G+i):Nat):Int))) q (λi _=>Lg);omega
 omega
theorem qp0(m:Int)(n:Nat):∀S:List Int,y8 (λi=>ny G S (m+1+i)) n<=G*S.length|[]=>by{simp only[ny];rw[Be _ _ (λ_ _=>rfl)];omega}|s::S=>by have d:=qp0 m n S;have c:=jm1 (G:=G) s m n;have b:=qG9 (λi=>jj G s (m+1+i)) (λi=>ny G S (m+1+i)) n;have a:y8 (λi=>ny G (s::S) (m+1+i)) n=y8 (λi=>jj G s (m+1+i)+ny G S (m+1+i)) n:=rfl;rw[a,b,nE,Nat.mul_succ];omega
theorem qf9{S:List Int}{M y:Int}(a:M∈S)(c:y<=M):ny G S y=ny G (S.erase M) y:=by induction S with|nil=>(simp at a)|cons s S b=>by_cases e:s=M;subst e;rw[List.erase_cons_head];simp only[ny];have:jj G s y=0:=Lg;omega;rw[List.erase_cons_tail my];simp only[ny];rw[b ((List.mem_cons.1 a).resolve_left (λh=>e h.symm))]
def fJ(G:Nat)(S:List Int)(m x:Int):Int:=(y8 (fun i=>nu G S (m+1+i)) (x-m).toNat:Nat)
theorem jm2{S:List Int}{m a b:Int}(d:m<=a)(c:a<=b):fJ G S m b-fJ G S m a=(y8 (λi=>nu G S (a+1+i)) (b-a).toNat:Nat):=by
 unfold fJ;obtain⟨p,_⟩:∃p:Nat,(p:Int)=a-m:=⟨(a-m).toNat,aA⟩;obtain⟨k,_⟩:∃k:Nat,(k:Int)=b-a:=⟨(b-a).toNat,aA⟩;rw[show(b-m).toNat=p+k by omega,show(a-m).toNat=p by omega,show(b-a).toNat=k by omega,Bd];have:(λi:Nat=>nu G S (m+1+((p+i:Nat):Int)))=(λi:Nat=>nu G S (a+1+(i:Int))):=by funext i;exact kv
 rw[this];omega
theorem qg0{S:List Int}{m a b:Int}(j:a∈S)(f:m<=a)(c:a<=b):(b-a<=G->fJ G S m b-fJ G S m a=b-a)/\(G<=b-a->G<=fJ G S m b-fJ G S m a):=by
 have e:∀i:Nat,i<G->nu G S (a+1+i)=1:=by intro i d;unfold nu;rw[aJ];exact List.any_eq_true.2 ⟨a,j,aM⟩
 rw[jm2 f c];constructor;intro h;rw[QU _ _ (λi d=>e i aA)];omega;intro h;obtain⟨q,g⟩:∃q:Nat,(b-a).toNat=G+q:=⟨(b-a).toNat-G,aA⟩;rw[g,Bd,QU _ _ (λi d=>e i d)];omega
theorem qp1{S:List Int}{m M:Int}(a:M∈S){x:Int}(d:x<=M):0<=fJ G S m x/\fJ G S m x<=((G*(S.length-1):Nat):Int):=by
 refine⟨by unfold fJ;omega,?_⟩;unfold fJ;have c:y8 (λi=>nu G S (m+1+i)) (x-m).toNat<=y8 (λi=>ny G (S.erase M) (m+1+i)) (x-m).toNat:=by refine yS λi _=>?_;rw[<-qf9 a aA];exact qS2 _ _
 have b:=qp0 (G:=G) m (x-m).toNat (S.erase M);rw[Lq a]at b;omega
theorem jC3{S:List Int}(h:S≠[]):∃m∈S,∀s∈S,m<=s:=by induction S with|nil=>(exact absurd rfl h)|cons s S a=>by_cases e:S=[];subst e;exact⟨s,aC,aC⟩;obtain⟨m,hm,hle⟩:=a e;by_cases b:s<=m;exact Zgr;exact Zgv
theorem jP4{S:List Int}(h:S≠[]):∃m∈S,∀s∈S,s<=m:=by induction S with|nil=>(exact absurd rfl h)|cons s S a=>by_cases e:S=[];subst e;exact⟨s,aC,aC⟩;obtain⟨m,hm,hle⟩:=a e;by_cases b:m<=s;exact Zgr;exact Zgv
theorem jC4(G:Nat)(S:List Int)(l:0∈S):∃φ:Int->Int,φ 0=0/\(∀a∈S,∀b∈S,∀c:Int,-(G:Int)<=c->c+1<=G->(a<=b+c↔φ a<=φ b+c))/\(∀a∈S,∀b∈S,φ a-φ b<=((G*(S.length-1):Nat):Int)):=by
 have f:S≠[]:=λe=>by rw[e]at l;simp at l
 obtain⟨m,_,h⟩:=jC3 f;obtain⟨_,k,d⟩:=jP4 f;refine⟨λx=>fJ G S m x-fJ G S m 0,aC,λa i b hb c o n=>?_,λa i b hb=>?_⟩;{have p:=h a i;have lb:=h b hb;show a<=b+c↔fJ G S m a-fJ G S m 0<=fJ G S m b-fJ G S m 0+c;by_cases j:a<=b;have g:=qg0 (G:=G) (m:=m) i p j;by_cases hd:b-a<=G;have:=g.1 hd;omega;have:=g.2 aA;omega;have g:=qg0 (G:=G) (m:=m) hb lb (aA:b<=a);by_cases hd:a-b<=G;have:=g.1 hd;omega;have:=g.2 aA;omega};have o:=qp1 (G:=G) (m:=m) k (d a i);have n:=qp1 (G:=G) (m:=m) k (d b hb);show fJ G S m a-fJ G S m 0-(fJ G S m b-fJ G S m 0)<=_;omega
theorem jm3{T A:List Nd}{v:Nd->Int}(M:Good T v)(D:∀x∈T,∀p∈J6 x,p∈T)(P:∀x∈A,dN x/\∀p∈(J6 x).take 2,p∈T)(g:Nat)(C:∀n,.mk 4 ByteArray.empty n []∈T-> -(g:Int)<=n/\n<=g)(L:∀x∈A,-(g:Int)<=dm ((J6 x).drop 2)/\dm ((J6 x).drop 2)<=g):∃o,Good T o/\(∀x∈A,iF o x=iF v x)/\(∀x∈T,∀y∈T,o x-o y<=(((g+1)*T.length:Nat):Int))/\(∀x∈T,o x<=(((g+1)*T.length:Nat):Int)/\ -((((g+1)*T.length:Nat):Int))<=o x):=by
 obtain⟨φ,O,l,J⟩:=jC4 (g+1) (0::T.map v) aC;have d:∀x∈T,v x∈0::T.map v:=λx j=>eO _ (Fw j);have E:(0:Int)∈0::T.map v:=aC;have s:∀a∈0::T.map v,∀b∈0::T.map v,φ a=φ b->a=b:=by intro a k b hb e;have u:=(l a k b hb 0 aA aA).2 aA;have t:=(l b hb a k 0 aA aA).2 aA;omega
 have N:(0::T.map v).length-1=T.length:=aC;refine⟨λx=>φ (v x),⟨λn K=>?_,λw ps qs H F f=>?_⟩,λx j=>?_,λx j y R=>?_,λx j=>?_⟩;{have e:=M.num n K;have hb:=C n K;have m:=d _ K;rw[e]at m;have u:=(l n m 0 E n aA aA).1 aA;have t:=(l 0 E n m (-n) aA aA).1 aA;show φ (v _)=n;rw[e];omega};{show φ (v _)=φ (v _);have:ps.map v=qs.map v:=by{have B:∀p∈ps,p∈T:=λp h=>D _ H p h;have z:∀p∈qs,p∈T:=λp h=>D _ F p h;clear H F;induction ps generalizing qs with|nil=>(cases qs with|nil=>(rfl)|cons _ _=>simp at f)|cons p ps S=>cases qs with|nil=>(simp at f)|cons q qs=>simp only[List.map_cons,List.cons.injEq]at f⊢;exact⟨s _ (d p (B p aC)) _ (d q (z q aC)) f.1,S qs f.2 (λr I=>B r (by simp[I])) (λr I=>z r (by simp[I]))⟩};rw[M.fn w ps qs H F this]};have hrel:∀(w:List UInt8)(a b c:Int),a∈0::T.map v->b∈0::T.map v-> -(g:Int)<=c->c<=g->fC w (φ a) (φ b) c=fC w a b c:=by intro w a b c k hb u t;have W:=l a k b hb 0 aA aA;have U:=l b hb a k 0 aA aA;have X:=l a k b hb (-1) aA aA;have V:=l a k b hb c aA aA;exact Zg9
 obtain⟨G,f⟩:=P x j;have i:=L x j;cases G with|two Q k hb=>(exact hrel _ _ _ _ (d _ (f _ jm)) (d _ (f _ jm)) i.1 i.2)|le Q k hb u t=>exact hrel _ _ _ _ (d _ (f _ jm)) (d _ (f _ jm)) i.1 i.2
 have:=J _ (d x j) _ (d y R);rw[N]at this;exact cS;have u:=J _ (d x j) 0 E;have t:=J 0 E _ (d x j);rw[N,O]at u t;show φ (v x)<=_/\_<=φ (v x);omega
end Ar
end
end Go.Proofs.YtegbdaffhpiacaaGreatDoor
