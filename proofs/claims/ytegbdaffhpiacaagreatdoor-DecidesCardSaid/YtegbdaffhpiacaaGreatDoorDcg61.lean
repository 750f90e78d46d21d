/- Part. -/
import Derived.Test.YtegbdaffhpiacaaGreatDoorDcgP
import Derived.ScopeJumps
import Derived.WalkMore
set_option maxRecDepth 100000
namespace Go.Proofs.YtegbdaffhpiacaaGreatDoor
namespace Ar
structure Tk where
 pos:Nat
 aB:ByteArray
structure Nm where
 name:ByteArray
 ar:Int
 fr:Int
def iA:List UInt8:=[116,114,117,101]
def jr:List UInt8:=[102,97,108,115,101]
def eo:List UInt8:=[110,111,116]
def gn:List UInt8:=[97,110,100]
def gM:List UInt8:=[111,114]
def eQ:List UInt8:=[105,102,102]
def fA:List UInt8:=[108,101]
def rY(l:List UInt8):Bool:=l==iA || l==jr || l==eo || l==gn || l==gM || l==eQ || l==fA
def ij(c:UInt8):Bool:=decide (97<=(c.toNat:Int)/\(c.toNat:Int)<=122)
def U5(c:UInt8):Bool:=decide (48<=(c.toNat:Int)/\(c.toNat:Int)<=57)
def X7(l:List UInt8):Bool:=l.all ij && !rY l && (decide (1<=l.length) && decide (l.length<=8))
def val(l:List UInt8):Int:=l.foldl (fun v c=>min (v*10+((c.toNat:Int)-48)) 1001) 0
def Y6(l:List UInt8):List UInt8:=if l.head?=some 45 then l.tail else l
def numOf(l:List UInt8):Option Int :=
 if Y6 l=[]\/(Y6 l).all U5=false\/((Y6 l).head?=some 48/\l≠[48]) then none
 else some (if l.head?=some 45 then-val (Y6 l) else val (Y6 l))
def mC(c:UInt8):Bool:=c==32 || c==9 || c==10
def kE(c:UInt8):Bool:=c==40 || c==41
inductive Nd where
 | mk (kind:Int) (word:ByteArray) (val:Int) (J6:List Nd)
inductive Rs(α:Type) where
 | ok (a:α) (ts:List Tk)
 | no (err:Int) (pos:Nat)
def k9(N:List Nm)(l:List UInt8):Option Int:=(N.find? (fun x=>x.name.toList==l)).map (·.ar)
def W8(k:Int):List Tk->Rs Nd
 | []=>.no 0 0
 | t::ts=>
  match numOf t.aB.toList with
  | none=>.no 2 t.pos
  | some v=>if v < -1000\/1000<v then .no 5 t.pos else .ok (.mk k ByteArray.empty v []) ts
def J5:List (List Tk->Rs Nd)->List Tk->Rs (List Nd)
 | [],ts=>.ok [] ts
 | f::fs,ts=>
  match f ts with
  | .no e p=>.no e p
  | .ok a bh=>
   match J5 fs bh with
   | .no e p=>.no e p
   | .ok Zaa Lu=>.ok (a::Zaa) Lu
def eJ(f:List Tk->Rs Nd):List Tk->Rs Nd
 | []=>.no 0 0
 | t::ts=>if t.aB.toList=[41] then .no 4 t.pos else f (t::ts)
def U0(e:Int)(k:Int)(w:ByteArray)(ps:List Nd):List Tk->Rs Nd
 | []=>.no 0 0
 | v::vs=>if v.aB.toList=[41] then .ok (.mk k w 0 ps) vs else if v.aB.toList=[] then .no 2 v.pos else .no e v.pos
def Z5(e:Int)(k:Int)(w:ByteArray):Rs (List Nd)->Rs Nd
 | .no e p=>.no e p
 | .ok ps ts=>U0 e k w ps ts
def Z4(N:List Nm):Nat->Int->List Tk->Rs Nd
 | 0,_,_=>.no 0 0
 | _+1,_,[]=>.no 0 0
 | n+1,d,t::ts=>
  if t.aB.toList=[40] then
   if 30<=d then .no 6 t.pos else
   match ts with
   | []=>.no 0 0
   | u::us=>
    if X7 u.aB.toList then
     match k9 N u.aB.toList with
     | none=>.no 3 u.pos
     | some a=>if a=0 then .no 4 u.pos else Z5 4 3 u.aB (J5 (List.replicate a.toNat (eJ (Z4 N n (d+1)))) us)
    else .no 2 u.pos
  else if X7 t.aB.toList then
   match k9 N t.aB.toList with
   | none=>.no 3 t.pos
   | some a=>if a=0 then .ok (.mk 3 t.aB 0 []) ts else .no 4 t.pos
  else W8 4 (t::ts)
def jH(l:List UInt8):Option (Int × Int) :=
 if l=eo then some (1,0) else if l=gn then some (1,2) else if l=gM then some (1,2)
 else if l=[61,62] then some (1,1) else if l=eQ then some (1,1)
 else if l=[61] then some (2,3) else if l=[60] then some (2,3) else if l=[60,61] then some (2,3)
 else if l=fA then some (2,4) else none
def Y8:Nat->(List Tk->Rs Nd)->List Tk->Rs (List Nd)
 | 0,_,_=>.no 0 0
 | _+1,_,[]=>.no 0 0
 | m+1,f,t::ts=>
  if t.aB.toList=[41] then .ok [] (t::ts) else
  match f (t::ts) with
  | .no e p=>.no e p
  | .ok a bh=>
   match Y8 m f bh with
   | .no e p=>.no e p
   | .ok Zaa Lu=>.ok (a::Zaa) Lu
def mD(s:Int)(m:Nat)(F T B:List Tk->Rs Nd)(ts:List Tk):Rs (List Nd) :=
 if s=0 then J5 [F] ts else if s=1 then J5 [F,F] ts else if s=3 then J5 [T,T] ts else if s=4 then J5 [T,T,B] ts else Y8 m F ts
def Z8(N:List Nm):Nat->Int->List Tk->Rs Nd
 | 0,_,_=>.no 0 0
 | _+1,_,[]=>.no 0 0
 | n+1,d,t::ts=>
  if t.aB.toList=[40] then
   if 30<=d then .no 6 t.pos else
   match ts with
   | []=>.no 0 0
   | u::us=>
    match jH u.aB.toList with
    | none=>.no 2 u.pos
    | some ks=>Z5 2 ks.1 u.aB (mD ks.2 n (Z8 N n (d+1)) (Z4 N n (d+1)) (W8 5) us)
  else if t.aB.toList=iA\/t.aB.toList=jr then .ok (.mk 0 t.aB 0 []) ts
  else .no 2 t.pos
def TW:List Tk->Prop
 | []=>False
 | [t]=>t.aB.toList=[]
 | t::u::ts=>t.aB.toList≠[]/\TW (u::ts)
theorem TW.tail{t:Tk}{ts:List Tk}(h:TW (t::ts))(a:t.aB.toList≠[]):TW ts:=by cases ts with|nil=>(exact absurd h a)|cons u b=>exact h.2
theorem TW.ne{ts:List Tk}(h:TW ts):ts≠[]:=by intro e;subst e;exact h
theorem TW.last{t:Tk}{ts:List Tk}(h:TW (t::ts))(a:t.aB.toList=[]):ts=[]:=by cases ts with|nil=>(rfl)|cons u b=>exact absurd a h.1
end Ar
namespace Ar
structure M3 where
 a:BitVec 64
 b:BitVec 64
 c:BitVec 64
def M3.has(s:M3)(k:Nat):Bool:=if k<64 then s.a.getLsbD k else if k<128 then s.b.getLsbD (k-64) else s.c.getLsbD (k-128)
def M3.none:M3:=⟨0,0,0⟩
def M3.or(s t:M3):M3:=⟨s.a ||| t.a,s.b ||| t.b,s.c ||| t.c⟩
def M3.sub(s t:M3):M3:=⟨s.a &&& ~~~t.a,s.b &&& ~~~t.b,s.c &&& ~~~t.c⟩
def M3.of(k:Nat):M3:=if k<64 then⟨BitVec.twoPow 64 k,0,0⟩ else if k<128 then⟨0,BitVec.twoPow 64 (k-64),0⟩ else⟨0,0,BitVec.twoPow 64 (k-128)⟩
theorem M3.Zdi(k:Nat):M3.none.has k=false:=by simp[M3.has,M3.none]
theorem M3.BU(s t:M3)(k:Nat):(s.or t).has k=(s.has k||t.has k):=by unfold M3.has M3.or;split;simp;split<;>simp
theorem M3.Lv(s t:M3)(k:Nat):(s.sub t).has k=(s.has k&& !t.has k):=by unfold M3.has M3.sub;split;rename_i h;simp[h];split;rename_i c b;simp[show k-64<64 by omega];by_cases a:k-128<64;simp[a];simp[BitVec.getLsbD_of_ge _ _ (aA:64<=k-128)]
theorem M3.BV{s:M3}{k:Nat}(h:s.has k=true):k<192:=by unfold M3.has at h;split at h;omega;split at h;omega;have:=BitVec.lt_of_getLsbD h;omega
theorem M3.wD{k:Nat}(c:k<192)(j:Nat):(M3.of k).has j=decide (j=k):=by unfold M3.of M3.has;by_cases a:k<64;simp only[a,tG];split;exact ZbP;split;exact aM;exact aM;by_cases b:k<128;simp only[a,b,tG,if_false];split;exact aM;split;exact ZbP;exact aM;simp only[a,b,if_false];split;exact aM;split;exact aM;exact ZbP
theorem M3.none_or(s:M3):M3.none.or s=s:=by simp[M3.or,M3.none]
end Ar
namespace Ar
structure Tb where
 aI:Nat->Nat->Int
 br:Nat->Nat->M3
structure O3 where
 t:Tb
 news:Bool
 bZ:M3
def Hs(H:Nat->(Nat->Int)->Prop)(s:M3)(v:Nat->Int):Prop:=∀ k,s.has k=true->H k v
theorem Hs.or{H:Nat->(Nat->Int)->Prop}{s t:M3}{v:Nat->Int}:Hs H (s.or t) v↔Hs H s v/\Hs H t v:=by constructor;intro h;exact⟨λk hk=>h k (by rw[M3.BU,hk];rfl),λk hk=>h k (by rw[M3.BU,hk];simp)⟩;rintro⟨h1,h2⟩k hk;exact Zgz
def X8(K:Nat)(s:M3):Prop:=∀ k,s.has k=true->k<K
theorem X8.or{K:Nat}{s t:M3}(h1:X8 K s)(h2:X8 K t):X8 K (s.or t):=by intro k hk;exact Zgz
theorem X8.mono{K a:Nat}{s:M3}(h:X8 K s)(b:K<=a):X8 a s:=λk e=>bD (h k e) b
theorem X8.none(K:Nat):X8 K M3.none:=λ_ e=>by rw[M3.Zdi]at e;exact bI
structure bU(n:Nat)(far:Int)(V:(Nat->Int)->Prop)(H:Nat->(Nat->Int)->Prop)(K:Nat)(T:Tb):Prop where
 diag:∀ i,i<n->T.aI i i=0
 oD:∀ i j k,i<n->j<n->k<n->T.aI i k<=T.aI i j+T.aI j k
 hi:∀ i j,i<n->j<n->T.aI i j<=far
 qF:∀ i j,i<n->j<n->X8 K (T.br i j)
 snd:∀ i j,i<n->j<n->∀ v,V v->Hs H (T.br i j) v->v i-v j<=T.aI i j
theorem bU.lo{n:Nat}{far:Int}{V:(Nat->Int)->Prop}{H:Nat->(Nat->Int)->Prop}{K:Nat}{T:Tb}(h:bU n far V H K T){i j:Nat}(a:i<n)(b:j<n):-far<=T.aI i j:=by have d:=h.oD i j i a b a;have c:=h.diag i a;have e:=h.hi j i b a;omega
theorem bU.same{n:Nat}{far:Int}{V:(Nat->Int)->Prop}{H c:Nat->(Nat->Int)->Prop}{K:Nat}{T:Tb}(h:bU n far V H K T)(f:∀k,k<K->∀v,c k v->H k v):bU n far V c K T:=⟨h.diag,h.oD,h.hi,h.qF,λi j d b v e g=>h.snd i j d b v e (λk a=>f k (h.qF i j d b k a) v (g k a))⟩
theorem bU.more{n:Nat}{far:Int}{V:(Nat->Int)->Prop}{H:Nat->(Nat->Int)->Prop}{K a:Nat}{T:Tb}(h:bU n far V H K T)(c:K<=a):bU n far V H a T:=⟨h.diag,h.oD,h.hi,λi j d b=>(h.qF i j d b).mono c,h.snd⟩
def js(n:Nat)(a T:Tb):Prop:=∀ i j,i<n->j<n->a.aI i j<=T.aI i j
theorem js.refl(n:Nat)(T:Tb):js n T T:=λ_ _ _ _=>yF _
theorem js.trans{n:Nat}{A B C:Tb}(d:js n A B)(c:js n B C):js n A C:=λi j b a=>BA (d i j b a) (c i j b a)
def Tb.df(n:Nat)(T:Tb)(i j:Nat)(m:Int)(mw:M3):Tb where
 aI:=fun f t=>if f<n/\t<n/\T.aI f i+m+T.aI j t<T.aI f t then T.aI f i+m+T.aI j t else T.aI f t
 br:=fun f t=>if f<n/\t<n/\T.aI f i+m+T.aI j t<T.aI f t then((T.br f i).or mw).or (T.br j t) else T.br f t
theorem BW{n:Nat}{T:Tb}{i j:Nat}{m:Int}{mw:M3}(f t:Nat):(T.df n i j m mw).aI f t<=T.aI f t:=ZjP
theorem SZ{n:Nat}{T:Tb}{i j:Nat}{m:Int}{mw:M3}{f t:Nat}(a:f<n)(b:t<n):(T.df n i j m mw).aI f t<=T.aI f i+m+T.aI j t:=ZjP
theorem Lw{n:Nat}{T:Tb}{i j:Nat}{m:Int}{mw:M3}(f t:Nat):(T.df n i j m mw).aI f t=T.aI f t\/(T.df n i j m mw).aI f t=T.aI f i+m+T.aI j t:=by simp only[Tb.df];split;exact .inr rfl;exact .inl rfl
theorem jP5{n:Nat}{far:Int}{V:(Nat->Int)->Prop}{H:Nat->(Nat->Int)->Prop}{K:Nat}{T:Tb}(h:bU n far V H K T){i j:Nat}{m:Int}{mw:M3}(l:i<n)(o:j<n)(hb:0<=m+T.aI j i)(q:X8 K mw)(x:∀v,V v->Hs H mw v->v i-v j<=m):bU n far V H K (T.df n i j m mw):=by refine⟨λa f=>?_,λa b c f d k=>?_,λa b f d=>?_,λa b f d=>?_,λa b f d v p g=>?_⟩;have u:=h.diag a f;have t:=h.oD j a i o f l;rcases Lw (n:=n) (T:=T) (i:=i) (j:=j) (m:=m) (mw:=mw) a a with e|e;omega;have w:=BW (n:=n) (T:=T) (i:=i) (j:=j) (m:=m) (mw:=mw) a a;omega;have B:=BW (n:=n) (T:=T) (i:=i) (j:=j) (m:=m) (mw:=mw) a c;have y:=SZ (T:=T) (i:=i) (j:=j) (m:=m) (mw:=mw) f k;have D:=h.oD a b c f d k;have z:=h.oD a b i f d l;have A:=h.oD j b c o d k;have C:=h.oD j b i o d l;rcases Lw (n:=n) (T:=T) (i:=i) (j:=j) (m:=m) (mw:=mw) a b with s|s<;>rcases Lw (n:=n) (T:=T) (i:=i) (j:=j) (m:=m) (mw:=mw) b c with r|r<;>rw[s,r]<;>omega;have:=BW (n:=n) (T:=T) (i:=i) (j:=j) (m:=m) (mw:=mw) a b;have:=h.hi a b f d;omega;simp only[Tb.df];split;exact((h.qF a i f l).or q).or (h.qF j b o d);exact h.qF a b f d;simp only[Tb.df]at g⊢;split;rename_i k;rw[aJ k,Hs.or,Hs.or]at g;have u:=h.snd a i f l v p g.1.1;have t:=x v p g.1.2;have w:=h.snd j b o d v p g.2;omega;rename_i k;rw[aF k]at g;exact h.snd a b f d v p g
theorem S0{n:Nat}{far:Int}{V:(Nat->Int)->Prop}{H:Nat->(Nat->Int)->Prop}{K:Nat}{T:Tb}(h:bU n far V H K T){i j:Nat}{m:Int}(a:i<n)(b:j<n)(hb:0<=m+T.aI j i)(f t:Nat)(c:t<n):(f=j\/t=i)->¬T.aI f i+m+T.aI j t<T.aI f t:=by have g:=h.oD j i t b a c;have e:=h.diag i a;have d:=h.diag j b;rintro(rfl|rfl);omega;omega
def mE(f:Nat->Int):Nat->Int
 | 0=>0
 | k+1=>mE f k+f k
theorem BY{f g:Nat->Int}:∀n,(∀i,i<n->f i<=g i)->mE f n<=mE g n|0,_=>yF _|n+1,h=>by have b:=BY n (λi _=>h i aA);have a:=h n aA;simp only[mE];omega
theorem Lx{f g:Nat->Int}:∀n,(∀i,i<n->f i<=g i)->(∃i,i<n/\f i<g i)->mE f n<mE g n|0,_,h=>by{obtain⟨i,b,_⟩:=h;omega}|n+1,h,hx=>by obtain⟨i,b,a⟩:=hx;have d:=BY n (λi b=>h i aA);have c:=h n aA;simp only[mE];by_cases e:i=n;subst e;omega;have j:=Lx n (λi b=>h i aA) ⟨i,aA,a⟩;omega
def rZ(n:Nat)(T:Tb):Int:=mE (fun i=>mE (fun j=>T.aI i j) n) n
theorem S1{n:Nat}{T U:Tb}(h:js n T U):rZ n T<=rZ n U:=BY n (λi b=>BY n (λj a=>h i j b a))
theorem jP6{n:Nat}{T U:Tb}(h:js n T U){i j:Nat}(b:i<n)(a:j<n)(c:T.aI i j<U.aI i j):rZ n T<rZ n U:=Lx n (λi b=>BY n (λj a=>h i j b a)) ⟨i,b,Lx n (λj a=>h i j b a) ⟨j,a,c⟩⟩
theorem Ly{f:Nat->Int}{b:Int}:∀n,(∀i,i<n->b<=f i)->b*(n:Int)<=mE f n|0,_=>by{simp[mE]}|n+1,h=>by have c:=Ly n (λi _=>h i aA);have a:=h n aA;simp only[mE];have d:b*((n+1:Nat):Int)=b*(n:Int)+b:=by{rw[show((n+1:Nat):Int)=(n:Int)+1 from rfl,Int.mul_add,Int.mul_one]};omega
structure ep(n:Nat)(far:Int)(V:(Nat->Int)->Prop)(H:Nat->(Nat->Int)->Prop)(K:Nat)(X Y:O3)(ok:Bool):Prop where
 inv:ok=true->bU n far V H K Y.t
 le:js n Y.t X.t
 news:Y.news=false->X.news=false/\Y.t=X.t
 bad:ok=false->X8 K Y.bZ/\∀ v,V v->¬Hs H Y.bZ v
 dec:Y.news=true->X.news=true\/rZ n Y.t<rZ n X.t
theorem ep.trans{n:Nat}{far:Int}{V:(Nat->Int)->Prop}{H:Nat->(Nat->Int)->Prop}{K:Nat}{X Y Z:O3}{a b:Bool}(f:ep n far V H K X Y a)(c:ep n far V H K Y Z b):ep n far V H K X Z b:=⟨c.inv,c.le.trans f.le,λe=>by obtain⟨h,g⟩:=c.news e;obtain⟨i,j⟩:=f.news h;exact⟨i,g.trans j⟩,c.bad,λe=>by have k:=S1 f.le;have l:=S1 c.le;rcases c.dec e with d|d;rcases f.dec d with d|d;exact .inl d;exact wA;exact wA⟩
theorem ep.refl{n:Nat}{far:Int}{V:(Nat->Int)->Prop}{H:Nat->(Nat->Int)->Prop}{K:Nat}{X:O3}(h:bU n far V H K X.t):ep n far V H K X X true:=⟨λ_=>h,js.refl _ _,λe=>⟨e,rfl⟩,λe=>bI,λe=>.inl e⟩
def O3.tS(n:Nat)(X:O3)(i j:Nat)(m:Int)(mw:M3):O3 × Bool :=
 if m+X.t.aI j i<0 then(⟨X.t,X.news,mw.or (X.t.br j i)⟩,false)
 else if X.t.aI i j<=m then(X,true)
 else(⟨X.t.df n i j m mw,true,X.bZ⟩,true)
theorem qS4{n:Nat}{far:Int}{V:(Nat->Int)->Prop}{H:Nat->(Nat->Int)->Prop}{K:Nat}{X:O3}(h:bU n far V H K X.t){i j:Nat}{m:Int}{mw:M3}(c:i<n)(d:j<n)(f:X8 K mw)(o:∀v,V v->Hs H mw v->v i-v j<=m):ep n far V H K X (X.tS n i j m mw).1 (X.tS n i j m mw).2/\((X.tS n i j m mw).2=true->(X.tS n i j m mw).1.t.aI i j<=m):=by unfold O3.tS;by_cases l:m+X.t.aI j i<0;rw[aJ l];refine⟨⟨λe=>bI,js.refl _ _,λe=>⟨e,rfl⟩,λ_=>⟨f.or (h.qF j i d c),λv p k=>?_⟩,λe=>.inl e⟩,λe=>bI⟩;rw[Hs.or]at k;have u:=o v p k.1;have w:=h.snd j i d c v p k.2;omega;rw[aF l];by_cases g:X.t.aI i j<=m;rw[aJ g];exact⟨ep.refl h,λ_=>g⟩;rw[aF g];have s:=SZ (T:=X.t) (i:=i) (j:=j) (m:=m) (mw:=mw) c d;have r:=h.diag i c;have q:=h.diag j d;exact⟨⟨λ_=>jP5 h c d aA f o,λa b _ _=>BW a b,λe=>bI,λe=>bI,λ_=>.inr (jP6 (λa b _ _=>BW a b) c d (by show(X.t.df n i j m mw).aI i j<X.t.aI i j;omega))⟩,λ_=>(by show(X.t.df n i j m mw).aI i j<=m;omega)⟩
end Ar
namespace Ar
theorem BZ(u m:Nat){b c:Nat}(hb:b<256)(f:c<256):(256*u+b)&&&(256*m+c)=256*(u&&&m)+(b&&&c):=by
 have d:b&&&c<256:=Nat.lt_of_le_of_lt Nat.and_le_left hb;apply Nat.eq_of_testBit_eq;intro i;have a:∀{x y:Nat},y<256->(256*x+y).testBit i=if i<8 then y.testBit i else x.testBit (i-8):=by intro x y e;have:=Nat.testBit_two_pow_mul_add x (i:=8) (b:=y) e i;exact cS
 rw[Nat.testBit_and,a hb,a f,a d];split<;>simp
def s1(m x:Nat):Nat:=((x/2) &&& m)+(x &&& m)
def s2(m x:Nat):Nat:=((x/4) &&& m)+(x &&& m)
def s3(m x:Nat):Nat:=(x/16+x) &&& m
theorem jQ0:∀a,a<256->∀r,r<2->((128*r+a/2)&&&0x55)=((a/2)&&&0x55):=iN
theorem jQ1:∀a,a<256->∀r,r<4->((64*r+a/4)&&&0x33)=((a/4)&&&0x33):=iN
theorem jQ2:∀a,a<69->∀r,r<5->((16*r+a/16+a)&&&0x0f)=((a/16+a)&&&0x0f):=iN
theorem tT(m q:Nat){a:Nat}(b:a<256):s1 (256*m+0x55) (256*q+a)=256*s1 m q+s1 0x55 a:=by unfold s1;have e:(256*q+a)/2=256*(q/2)+(128*(q%2)+a/2):=aA;rw[e,BZ _ _ aA aA,BZ _ _ b aA,jQ0 a b (q%2) aA];omega
theorem tU(m q:Nat){a:Nat}(b:a<256):s2 (256*m+0x33) (256*q+a)=256*s2 m q+s2 0x33 a:=by unfold s2;have e:(256*q+a)/4=256*(q/4)+(64*(q%4)+a/4):=aA;rw[e,BZ _ _ aA aA,BZ _ _ b aA,jQ1 a b (q%4) aA];omega
theorem tV(m q:Nat){a:Nat}(c:a<69)(b:q%16<5):s3 (256*m+0x0f) (256*q+a)=256*s3 m q+s3 0x0f a:=by unfold s3;have e:(256*q+a)/16+(256*q+a)=256*(q/16+q)+(16*(q%16)+a/16+a):=aA;rw[e,BZ _ _ aA aA,jQ2 a c (q%16) b]
theorem tW:∀a,a<256->s1 0x55 a<256:=iN
theorem tX:∀a,a<256->s2 0x33 (s1 0x55 a)<69/\s2 0x33 (s1 0x55 a)%16<5:=iN
theorem tY:∀a,a<256->s3 0x0f (s2 0x33 (s1 0x55 a))<=8/\(s3 0x0f (s2 0x33 (s1 0x55 a))=0↔a=0):=iN
def yQ(x:Nat):Nat:=s3 0x0F0F0F0F0F0F0F0F (s2 0x3333333333333333 (s1 0x5555555555555555 x))
def r8(a:Nat):Nat:=s3 0x0f (s2 0x33 (s1 0x55 a))
theorem jQ3(m:Nat):s1 m 0=0:=by simp[s1]
theorem jQ4(m:Nat):s2 m 0=0:=by simp[s2]
theorem jQ5(m:Nat):s3 m 0=0:=by simp[s3]
theorem jm4{n o p h j i l b:Nat}(c:n<256)(e:o<256)(a:p<256)(k:h<256)(d:j<256)(g:i<256)(m:l<256)(f:b<256):yQ (256*(256*(256*(256*(256*(256*(256*(256*0+b)+l)+i)+j)+h)+p)+o)+n)=256*(256*(256*(256*(256*(256*(256*(256*0+r8 b)+r8 l)+r8 i)+r8 j)+r8 h)+r8 p)+r8 o)+r8 n:=by have q:(0x5555555555555555:Nat)=256*(256*(256*(256*(256*(256*(256*(256*0+0x55)+0x55)+0x55)+0x55)+0x55)+0x55)+0x55)+0x55:=iN;have A:(0x3333333333333333:Nat)=256*(256*(256*(256*(256*(256*(256*(256*0+0x33)+0x33)+0x33)+0x33)+0x33)+0x33)+0x33)+0x33:=iN;have v:(0x0F0F0F0F0F0F0F0F:Nat)=256*(256*(256*(256*(256*(256*(256*(256*0+0x0f)+0x0f)+0x0f)+0x0f)+0x0f)+0x0f)+0x0f)+0x0f:=iN;unfold yQ;rw[q,A,v];rw[tT _ _ c,tT _ _ e,tT _ _ a,tT _ _ k,tT _ _ d,tT _ _ g,tT _ _ m,tT _ _ f,jQ3];rw[tU _ _ (tW _ c),tU _ _ (tW _ e),tU _ _ (tW _ a),tU _ _ (tW _ k),tU _ _ (tW _ d),tU _ _ (tW _ g),tU _ _ (tW _ m),tU _ _ (tW _ f),jQ4];have w:=tX _ c;have r:=tX _ e;have y:=tX _ a;have u:=tX _ k;have z:=tX _ d;have s:=tX _ g;have t:=tX _ m;have x:=tX _ f;rw[tV _ _ w.1 aA,tV _ _ r.1 aA,tV _ _ y.1 aA,tV _ _ u.1 aA,tV _ _ z.1 aA,tV _ _ s.1 aA,tV _ _ t.1 aA,tV _ _ x.1 aA,jQ5];rfl
def yR(x:Nat):Nat:=x+x/256+(x+x/256)/65536+(x+x/256+(x+x/256)/65536)/4294967296
theorem jZ4{x:Nat}(w:x<18446744073709551616):∃m n o i k j l h:Nat,m<256/\n<256/\o<256/\i<256/\k<256/\j<256/\l<256/\h<256/\x=256*(256*(256*(256*(256*(256*(256*(256*0+h)+l)+j)+k)+i)+o)+n)+m:=by obtain⟨f,_⟩:∃y,y=x/256:=⟨_,rfl⟩;obtain⟨e,_⟩:∃y,y=f/256:=⟨_,rfl⟩;obtain⟨a,_⟩:∃y,y=e/256:=⟨_,rfl⟩;obtain⟨d,_⟩:∃y,y=a/256:=⟨_,rfl⟩;obtain⟨b,_⟩:∃y,y=d/256:=⟨_,rfl⟩;obtain⟨c,_⟩:∃y,y=b/256:=⟨_,rfl⟩;obtain⟨g,_⟩:∃y,y=c/256:=⟨_,rfl⟩;have s:g<256:=aA;refine⟨x%256,f%256,e%256,a%256,d%256,b%256,c%256,g,aA,aA,aA,aA,aA,aA,aA,s,?_⟩;have q:256*(256*0+g)+c%256=c:=aA;rw[q];have p:256*c+b%256=b:=aA;rw[p];have v:256*b+d%256=d:=aA;rw[v];have u:256*d+a%256=a:=aA;rw[u];have r:256*a+e%256=e:=aA;rw[r];have t:256*e+f%256=f:=aA;rw[t];omega
theorem jQ6{y i k j n l m o c0 c1 c2 c3 c4 c5 q r:Nat}(A:c0<=8)(u:c1<=8)(F:c2<=8)(x:c3<=8)(G:c4<=8)(v:c5<=8)(w:q<=8)(C:r<=8)(a:o=r)(g:m=256*o+q)(f:l=256*m+c5)(d:n=256*l+c4)(e:j=256*n+c3)(c:k=256*j+c2)(b:i=256*k+c1)(h:y=256*i+c0):yR y<18446744073709551616/\yR y%128=c0+c1+c2+c3+c4+c5+q+r:=by
 have p:y/256=i:=by clear a g f d e c b;omega
 unfold yR;rw[p];have s:(y+i)/65536=k+j:=by have:y+i=65536*(k+j)+256*(c1+c2)+(c0+c1):=by{clear a g f d;omega};rw[this];clear a g f d e c b h this p;omega
 rw[s];have t:(y+i+(k+j))/4294967296=n+l+(m+o):=by have:y+i+(k+j)=4294967296*(n+l+(m+o))+16777216*(c3+c4+c5+q)+65536*(c2+c3+c4+c5)+256*(c1+c2+c3+c4)+(c0+c1+c2+c3):=by{clear p s;subst h b c e;clear a;omega};rw[this];clear a g f d e c b h this p s;omega
 rw[t];clear p s t;constructor;have J:m<=2056:=by clear f d e c b h;omega
 have z:l<=526344:=by clear g a d e c b h;omega
 have D:n<=134744072:=by clear g a f e c b h;omega
 have B:j<=34494482440:=by clear g a f d c b h;omega
 have I:k<=8830587504648:=by clear g a f d e b h;omega
 have H:i<=2260630401189896:=by clear g a f d e c h;omega
 have E:y<=578721382704613384:=by clear g a f d e c b;omega
 clear g f d e c b h;omega;have:y+i+(k+j)+(n+l+(m+o))=256*(i+k+(j+n)+(l+m+o))+(c0+c1+c2+c3+c4+c5+q+r):=aA;rw[this];clear g a f d e c b h this;omega
theorem jQ7{x:Nat}(m:x<18446744073709551616):yR (yQ x)<18446744073709551616/\(yR (yQ x)%128=0↔x=0):=by
 obtain⟨B,C,D,w,z,y,A,v,o,q,n,t,p,s,u,r,e⟩:=jZ4 m;have i:=tY _ o;have d:=tY _ q;have k:=tY _ n;have h:=tY _ t;have l:=tY _ p;have f:=tY _ s;have g:=tY _ u;have j:=tY _ r;have b:=jQ6 i.1 d.1 k.1 h.1 l.1 f.1 g.1 j.1 rfl rfl rfl rfl rfl rfl rfl rfl;have a:=jm4 o q n t p s u r;rw[<-e]at a;simp only[Nat.mul_zero,oy]at a;unfold r8 at a;rw[<-a]at b;refine⟨b.1,?_⟩;rw[b.2];have c:x=0↔B=0/\C=0/\D=0/\w=0/\z=0/\y=0/\A=0/\v=0:=by constructor;intro m;rw[m]at e;clear b a i d k h l f g j;omega;rintro⟨rfl,rfl,rfl,rfl,rfl,rfl,rfl,rfl⟩;exact e
 rw[c,<-i.2,<-d.2,<-k.2,<-h.2,<-l.2,<-f.2,<-g.2,<-j.2];clear b a c e i d k h l f g j;omega
end Ar
namespace Ar
structure Ed where
 a:Nat
 b:Nat
 c:Int
def cN(l:List Ed)(u:Nat->Int):Prop:=∀ e∈l,u e.a<=u e.b+e.c
def gN(n:Nat)(l:List Ed):Prop:=∀ e∈l,e.a<n/\e.b<n /\ -1001<=e.c/\e.c<=1000
def gv(v:List Int)(i:Nat):Int:=(v[i]?).getD 0
def dJ(v:List Int)(e:Ed):List Int:=if gv v e.b+e.c<gv v e.a then v.set e.a (gv v e.b+e.c) else v
def dh(l:List Ed)(v:List Int):List Int:=l.foldl dJ v
def oE(l:List Ed)(v:List Int):Bool:=match l with
 | []=>true
 | e::l => !(decide (gv v e.b+e.c<gv v e.a)) && oE l (dJ v e)
theorem FF{v:List Int}{i:Nat}(h:i<v.length)(x:Int):gv (v.set i x) i=x:=by simp[gv,h]
theorem Lz{v:List Int}{i j:Nat}(h:¬i=j)(x:Int):gv (v.set i x) j=gv v j:=by simp[gv,h]
theorem r9(v:List Int)(e:Ed):(dJ v e).length=v.length:=by unfold dJ;split<;>simp
theorem jB2(l:List Ed):∀v,(dh l v).length=v.length:=by induction l with|nil=>(intro v;rfl)|cons e l a=>intro v;show(dh l (dJ v e)).length=_;rw[a,r9]
theorem S2{v:List Int}{e:Ed}(h:e.a<v.length)(i:Nat):gv (dJ v e) i<=gv v i:=by unfold dJ;split;by_cases a:e.a=i;subst a;rw[FF h];omega;rw[Lz a];omega;omega
theorem S3{v:List Int}{e:Ed}{d:Nat->Int}(h:e.a<v.length)(hd:d e.a<=d e.b+e.c)(a:∀i,i<v.length->d i<=gv v i)(hb:e.b<v.length):∀i,i<(dJ v e).length->d i<=gv (dJ v e) i:=by intro i b;rw[r9]at b;unfold dJ;split;by_cases c:e.a=i;subst c;rw[FF h];have:=a e.b hb;omega;rw[Lz c];exact a i b;exact a i b
theorem LA{l:List Ed}:∀{v:List Int},gN v.length l->∀i,gv (dh l v) i<=gv v i:=by induction l with|nil=>(intro v _ i;exact Int.le_refl _)|cons e l a=>intro v h i;have c:=S2 (h e aC).1 i;have b:=a (v:=dJ v e) ZhN i;show gv (dh l (dJ v e)) i<=_;omega
theorem LB{l:List Ed}{d:Nat->Int}:∀{v:List Int},gN v.length l->cN l d->(∀i,i<v.length->d i<=gv v i)->∀i,i<v.length->d i<=gv (dh l v) i:=by induction l with|nil=>(intro v _ _ h i a;exact h i a)|cons e l f=>intro v h c g i a;have b:=h e aC;show d i<=gv (dh l (dJ v e)) i;exact f (v:=dJ v e) ZhN (λx hx=>c x (by simp[hx])) (S3 b.1 (c e aC) g b.2.1) i (by rw[r9];exact a)
theorem jl2{l:List Ed}:∀{v:List Int},oE l v=true->dh l v=v/\cN l (gv v):=by induction l with|nil=>(intro v _;exact⟨rfl,by intro e f;simp at f⟩)|cons e l g=>intro v h;unfold oE at h;rw[Bool.and_eq_true]at h;obtain⟨h1,b⟩:=h;have j:¬gv v e.b+e.c<gv v e.a:=yx;have c:dJ v e=v:=by{unfold dJ;rw[if_neg j]};rw[c]at b;obtain⟨i,d⟩:=g b;refine⟨by show dh l (dJ v e)=v;rw[c];exact i,?_⟩;intro x a;rcases List.mem_cons.1 a with rfl|a;omega;exact d x a
theorem jl3{l:List Ed}:∀{v:List Int},cN l (gv v)->oE l v=true:=by induction l with|nil=>(intro v _;rfl)|cons e l a=>intro v h;have d:=h e aC;have b:dJ v e=v:=by{unfold dJ;rw[if_neg aA]};unfold oE;rw[b,Bool.and_eq_true];exact⟨aM,a (λx c=>h x (by simp[c]))⟩
def y8(f:Nat->Nat):Nat->Nat
 | 0=>0
 | n+1=>y8 f n+f n
theorem yS{f g:Nat->Nat}:∀{n:Nat},(∀i,i<n->f i<=g i)->y8 f n<=y8 g n|0,_=>aW _|n+1,h=>by have:=yS (n:=n) (λi _=>h i aA);have:=h n aA;exact E3
theorem FG{f g:Nat->Nat}:∀{n:Nat},(∀i,i<n->f i<=g i)->(∃i,i<n/\f i<g i)->y8 f n<y8 g n|0,_,h=>by{obtain⟨i,c,_⟩:=h;omega}|n+1,h,hx=>by obtain⟨i,c,a⟩:=hx;have d:=h n aA;simp only[y8];by_cases e:i=n;subst e;have:=yS (n:=i) (λj b=>h j aA);omega;have:=FG (n:=n) (λj b=>h j aA) ⟨i,aA,a⟩;omega
def yT(n:Nat)(l:List Ed)(d:Nat->Int):Prop :=
 ∀ S:Nat->Prop,(∃ i,i<n/\S i)->(∀ i,i<n->S i->d i<0)->∃ e∈l,S e.a/\¬S e.b/\d e.a=d e.b+e.c
theorem jl4{n:Nat}{l:List Ed}:∀(k:Nat)(d:Nat->Int),y8 (λi=>(-d i).toNat) n<=k->cN l d->(∀i,i<n->d i<=0)->∃d',cN l d'/\(∀i,i<n->d' i<=0)/\yT n l d':=by intro k;induction k with|zero=>(intro d s h m;refine⟨d,h,m,?_⟩;intro S ⟨i,b,p⟩a;have q:=a i b p;have:=FG (f:=λ_=>0) (g:=λi=>(-d i).toNat) (n:=n) (λj _=>aA) ⟨i,b,by show 0<(-d i).toNat;omega⟩;have w:y8 (λ_=>0) n<=y8 (λi=>(-d i).toNat) n:=yS (λ_ _=>Nat.zero_le _);omega)|succ k u=>intro d s h m;by_cases c:yT n l d;exact⟨d,h,m,c⟩;unfold yT at c;simp only[Classical.not_forall,not_exists,not_and]at c;obtain⟨S,⟨i,b,p⟩,a,q⟩:=c;classical refine u (λj=>if S j then d j+1 else d j) ?_ ?_ ?_;have:=FG (f:=λj=>(-(if S j then d j+1 else d j)).toNat) (g:=λj=>(-d j).toNat) (n:=n) (λj o=>by by_cases e:S j;have:=a j o e;simp only[if_pos e];omega;simp only[if_neg e];omega) ⟨i,b,by have:=a i b p;simp only[if_pos p];omega⟩;omega;intro e r;have x:=h e r;have t:=q e r;by_cases v:S e.a<;>by_cases hb:S e.b<;>simp only[v,hb,if_pos,if_neg,not_false_eq_true,true_implies]at t⊢<;>omega;intro j o;by_cases e:S j;have:=a j o e;simp only[if_pos e];omega;simp only[if_neg e];exact m j o
theorem jB3{n:Nat}{l:List Ed}{u:Nat->Int}(c:cN l u):∃d,cN l d/\(∀i,i<n->d i<=0)/\yT n l d:=by
 have hb:∃M:Int,∀i,i<n->u i<=M:=by clear c;induction n with|zero=>(exact⟨0,λi b=>aA⟩)|succ n f=>obtain⟨M,a⟩:=f;refine⟨max M (u n),λi b=>?_⟩;by_cases e:i=n;subst e;omega;have:=a i aA;omega
 obtain⟨M,a⟩:=hb;exact jl4 _ (λi=>u i-M) (aW _) (λe g=>by have:=c e g;show u e.a-M<=u e.b-M+e.c;omega) (λi b=>by have:=a i b;show u i-M<=0;omega)
def qG(d:Nat->Int)(v:List Int)(n:Nat):Nat:=y8 (fun i=>if gv v i=d i then 0 else 1) n
theorem S4{d:Nat->Int}{v:List Int}:∀{n:Nat},qG d v n=0->∀i,i<n->gv v i=d i|0,_,i,hi=>aA|n+1,h,i,hi=>by have b:qG d v n+(if gv v n=d n then 0 else 1)=0:=h;by_cases e:i=n;subst e;by_cases a:gv v i=d i;exact a;rw[aF a]at b;omega;exact S4 (n:=n) aA i aA
theorem jB4{l:List Ed}{d:Nat->Int}{e:Ed}:∀{v:List Int},gN v.length l->cN l d->(∀i,i<v.length->d i<=gv v i)->e∈l->gv v e.b=d e.b->d e.a=d e.b+e.c->gv (dh l v) e.a=d e.a:=by induction l with|nil=>(intro v _ _ _ f;simp at f)|cons x l t=>intro v h o q f _ s;have b:=h x aC;have j:gN (dJ v x).length l:=by{rw[r9];exact λy hy=>h y E4};have c:cN l d:=λy hy=>o y E4;have a:=S3 b.1 (o x aC) q b.2.1;show gv (dh l (dJ v x)) e.a=d e.a;by_cases p:e=x;subst p;have m:gv (dJ v e) e.a=d e.a:=by{have r:=q e.a b.1;have n:=a e.a (by rw[r9];exact b.1);unfold dJ at n⊢;split;rw[FF b.1];omega;omega};have u:=LB j c a e.a (by rw[r9];exact b.1);have w:=LA j e.a;omega;have k:e∈l:=by{rcases List.mem_cons.1 f with h|h;exact absurd h p;exact h};have g:e.b<v.length:=(h e f).2.1;have m:gv (dJ v x) e.b=d e.b:=by{have r:=S2 b.1 e.b;have n:=a e.b (by rw[r9];exact g);omega};exact t j c a k m s
theorem jl5{l:List Ed}{d:Nat->Int}{v:List Int}(h:gN v.length l)(g:cN l d)(k:yT v.length l d)(f:∀i,i<v.length->d i<=gv v i)(m:∀i,i<v.length->gv v i<=0)(y:0<qG d v v.length):qG d (dh l v) v.length<qG d v v.length:=by
 have c:∃i,i<v.length/\¬gv v i=d i:=by refine tH λq=>?_;have:qG d v v.length=0:=by{have u:qG d v v.length<=y8 (λ_=>0) v.length:=yS (λi a=>by have:gv v i=d i:=tH λe=>q ⟨i,a,e⟩;simp[this]);have p:∀n,y8 (λ_=>0) n=0:=by{intro n;induction n with|zero=>(rfl)|succ n s=>simp[y8,s]};have:=p v.length;omega};omega
 obtain⟨e,j,t,hb,o⟩:=k (λi=>¬gv v i=d i) c (λi a _=>by have:=f i a;have:=m i a;omega);have hb:gv v e.b=d e.b:=tH hb;have b:=h e j;refine FG (λi a=>?_) ⟨e.a,b.1,?_⟩;by_cases r:gv v i=d i;have x:=LA h i;have w:=LB h g f i a;rw[aJ aA];omega;rw[aF r];exact ow;rw[aJ (jB4 h g f j hb o),aF t];omega
def nF(l:List Ed):Nat->List Int->Option (List Int)
 | 0,_=>none
 | k+1,v=>if oE l v=true then some (dh l v) else nF l k (dh l v)
theorem S5{l:List Ed}{d:Nat->Int}:∀{k:Nat}{v:List Int},gN v.length l->cN l d->yT v.length l d->(∀i,i<v.length->d i<=gv v i)->(∀i,i<v.length->gv v i<=0)->qG d v v.length<k->nF l k v≠none|0,v,_,_,_,_,_,hk=>aA|k+1,v,h,hs,ht,hv,h0,hk=>by unfold nF;split;simp;rename_i c;have j:0<qG d v v.length:=by{refine tH λf=>c (jl3 ?_);have f:=S4 (n:=v.length) (d:=d) (v:=v) aA;intro e g;have a:=h e g;rw[f e.a a.1,f e.b a.2.1];exact hs e g};have m:=jl5 h hs ht hv h0 j;have hl:=jB2 l v;refine S5 (by rw[hl];exact h) hs (by rw[hl];exact ht) (λi b=>LB h hs hv i (by rw[hl]at b;exact b)) (λi b=>?_) wj;have:=LA h i;have:=h0 i (by rw[hl]at b;exact b);omega
theorem LC(n i:Nat):gv (List.replicate n 0) i=0:=by simp only[gv,List.getElem?_replicate];split<;>rfl
theorem qG3{n:Nat}{l:List Ed}(h:gN n l)(b:∃u,cN l u):nF l (n+1) (List.replicate n 0)≠none:=by
 obtain⟨u,b⟩:=b;obtain⟨d,g,e,k⟩:=jB3 (n:=n) b;have a:(List.replicate n (0:Int)).length=n:=aC;refine S5 (d:=d) (by rw[a];exact h) g (by rw[a];exact k) (λi c=>?_) (λi c=>?_) ?_;rw[LC];exact e i aA;rw[LC];omega;rw[a];have j:qG d (List.replicate n 0) n<=y8 (λ_=>1) n:=yS (λi c=>ow);have:∀m,y8 (λ_=>1) m=m:=by intro m;induction m with|zero=>(rfl)|succ m f=>simp[y8,f]
 have:=this n;omega
end Ar
section
open Go
def pz(J:Nat->Act->World->Prop)(Q:Exit->Act->World->Prop):Exit->Act->World->Prop
 | .goto l,a,w=>J l a w
 | e,a,w=>Q e a w
section
variable{P:Program}{a:Act}{w:World}{Q:Exit->Act->World->Prop}
theorem zW0{c:Code}(J:Nat->Nat->Act->World->Prop)(s:c.wp P (pz (λl a w=>∃n,J l n a w) Q) a w)(dh:∀l n a w,J l n a w->∃rest,findLabel c l=some rest/\rest.wp P (pz (λp v w'=>∃q,q<n/\J p q v w') Q) a w):(Code.scope c).wp P Q a w:=by
 intro b k cs;have C:∀n l a w rest,J l n a w->findLabel c l=some rest->∃e v w',Q e v w'/\Arrives P (lone (b.at a (.code rest::.inScope c::k)) cs w) b k cs e v w':=by intro n;induction n using Nat.strongRecOn with|_ n K=>intro l a w rest I H;obtain⟨t,u,G⟩:=dh l n a w I;obtain rfl:rest=t:=by{rw[H]at u;exact Option.some.inj u};obtain⟨e,h,g,j,d⟩:=G b (.inScope c::k) cs;cases e with|normal=>(exact⟨.normal,h,g,j,Steps.trans d (.one step_inScope)⟩)|exit id=>(exact⟨.exit id,h,g,j,λB A=>d B (by simp[exitTo,A])⟩)|goto p=>(obtain⟨q,x,m⟩:=j;obtain⟨f,o,_⟩:=dh p q h g m;have z:gotoIn p (.inScope c::k)=some (.code f::.inScope c::k):=by{simp[gotoIn,o]};obtain⟨y,D,E,r,i⟩:=K q x p h g f m o;exact⟨y,D,E,r,.of_steps (d _ z) i⟩)|ret=>(exact⟨_,h,g,j,d⟩)|panic F=>(exact⟨_,h,g,j,d⟩)|outgrown=>exact⟨_,h,g,j,d⟩
 obtain⟨e,h,g,j,d⟩:=s b (.inScope c::k) cs;cases e with|normal=>(exact⟨.normal,h,g,j,.head step_scope (Steps.trans d (.one step_inScope))⟩)|exit id=>(exact⟨.exit id,h,g,j,λB A=>.head step_scope (d B (by simp[exitTo,A]))⟩)|goto p=>(obtain⟨q,m⟩:∃n,J p n h g:=j;obtain⟨f,o,_⟩:=dh p q h g m;have z:gotoIn p (.inScope c::k)=some (.code f::.inScope c::k):=by{simp[gotoIn,o]};obtain⟨y,D,E,r,i⟩:=C q p h g f m o;exact⟨y,D,E,r,.of_steps (.head step_scope (d _ z)) i⟩)|ret=>(exact⟨_,h,g,j,.of_steps (.one step_scope) d⟩)|panic F=>(exact⟨_,h,g,j,.of_steps (.one step_scope) d⟩)|outgrown=>exact⟨_,h,g,j,.of_steps (.one step_scope) d⟩
end
end
end Go.Proofs.YtegbdaffhpiacaaGreatDoor
