/- Part. -/
import Derived.Test.YtegbdaffhpiacaaGreatDoorAl00
import Derived.Test.YtegbdaffhpiacaaGreatDoorAlP
import Derived.ScopeJumps
import Derived.WalkMore
set_option maxRecDepth 100000
open ByteArray renaming toList->aF
open List renaming length->aA
open Option renaming some->aQ
namespace Go.Proofs.YtegbdaffhpiacaaGreatDoor
namespace Ar
structure Tk where
 pos:Nat
 bI:ByteArray
abbrev aZ:=List Tk
structure Nm where
 name:ByteArray
 ar:Int
 fr:Int
abbrev a6:=List Nm
def jm:aU:=[116,114,117,101]
def jS:aU:=[102,97,108,115,101]
def fI:aU:=[110,111,116]
def iF:aU:=[97,110,100]
def iQ:aU:=[111,114]
def gd:aU:=[105,102,102]
def gG:aU:=[108,101]
def ti(l:aU):Bool:=l==jm || l==jS || l==fI || l==iF || l==iQ || l==gd || l==gG
def iG(c:UInt8):Bool:=decide (97<=(c.toNat:Int)/\(c.toNat:Int)<=122)
def U5(c:UInt8):Bool:=decide (48<=(c.toNat:Int)/\(c.toNat:Int)<=57)
def X7(l:aU):Bool:=l.all iG && ! ti l && (decide (1<=aA l) && decide (aA l<=8))
def val(l:aU):Int:=l.foldl (fun v c=>min (v*10+((c.toNat:Int)-48)) 1001) 0
def Y6(l:aU):aU:=if l.head?=aQ 45 then l.tail else l
def numOf(l:aU):Option Int :=
 if Y6 l=[]\/(Y6 l).all U5=false\/((Y6 l).head?=aQ 48/\l≠[48]) then none
 else aQ (if l.head?=aQ 45 then-val (Y6 l) else val (Y6 l))
def jT(c:UInt8):Bool:=c==32 || c==9 || c==10
def jD(c:UInt8):Bool:=c==40 || c==41
inductive Nd where
 | mk (kind:Int) (word:ByteArray) (val:Int) (J6:List Nd)
abbrev br:=List (Nd × Int)
abbrev aY:=List Nd
inductive Rs(α:Type) where
 | ok (a:α) (ts:List Tk)
 | no (err:Int) (pos:Nat)
def k9(N:a6)(l:aU):Option Int:=(N.find? (fun x=>x.name.toList==l)).map (·.ar)
def W8(k:Int):aZ->Rs Nd
 | []=>.no 0 0
 | t::ts=>
  match numOf (aF t.bI) with
  | none=>.no 2 t.pos
  | some v=>if v < -1000\/1000<v then .no 5 t.pos else .ok (.mk k ByteArray.empty v []) ts
def J5:List (aZ->Rs Nd)->aZ->Rs (aY)
 | [],ts=>.ok [] ts
 | f::fs,ts=>
  match f ts with
  | .no e p=>.no e p
  | .ok a cA=>
   match J5 fs cA with
   | .no e p=>.no e p
   | .ok Zqo M1=>.ok (a::Zqo) M1
def fp(f:aZ->Rs Nd):aZ->Rs Nd
 | []=>.no 0 0
 | t::ts=>if aF t.bI=[41] then .no 4 t.pos else f (t::ts)
def U0(e:Int)(k:Int)(w:ByteArray)(ps:aY):aZ->Rs Nd
 | []=>.no 0 0
 | v::vs=>if aF v.bI=[41] then .ok (.mk k w 0 ps) vs else if aF v.bI=[] then .no 2 v.pos else .no e v.pos
def Z5(e:Int)(k:Int)(w:ByteArray):Rs (aY)->Rs Nd
 | .no e p=>.no e p
 | .ok ps ts=>U0 e k w ps ts
def Z4(N:a6):Nat->Int->aZ->Rs Nd
 | 0,_,_=>.no 0 0
 | _+1,_,[]=>.no 0 0
 | n+1,d,t::ts=>
  if aF t.bI=[40] then
   if 30<=d then .no 6 t.pos else
   match ts with
   | []=>.no 0 0
   | u::us=>
    if X7 (aF u.bI) then
     match k9 N (aF u.bI) with
     | none=>.no 3 u.pos
     | some a=>if a=0 then .no 4 u.pos else Z5 4 3 u.bI (J5 (List.replicate a.toNat (fp (Z4 N n (d+1)))) us)
    else .no 2 u.pos
  else if X7 (aF t.bI) then
   match k9 N (aF t.bI) with
   | none=>.no 3 t.pos
   | some a=>if a=0 then .ok (.mk 3 t.bI 0 []) ts else .no 4 t.pos
  else W8 4 (t::ts)
def iR(l:aU):Option (Int × Int) :=
 if l=fI then aQ (1,0) else if l=iF then aQ (1,2) else if l=iQ then aQ (1,2)
 else if l=[61,62] then aQ (1,1) else if l=gd then aQ (1,1)
 else if l=[61] then aQ (2,3) else if l=[60] then aQ (2,3) else if l=[60,61] then aQ (2,3)
 else if l=gG then aQ (2,4) else none
def Y8:Nat->(aZ->Rs Nd)->aZ->Rs (aY)
 | 0,_,_=>.no 0 0
 | _+1,_,[]=>.no 0 0
 | m+1,f,t::ts=>
  if aF t.bI=[41] then .ok [] (t::ts) else
  match f (t::ts) with
  | .no e p=>.no e p
  | .ok a cA=>
   match Y8 m f cA with
   | .no e p=>.no e p
   | .ok Zqo M1=>.ok (a::Zqo) M1
def nL(s:Int)(m:Nat)(F T B:aZ->Rs Nd)(ts:aZ):Rs (aY) :=
 if s=0 then J5 [F] ts else if s=1 then J5 [F,F] ts else if s=3 then J5 [T,T] ts else if s=4 then J5 [T,T,B] ts else Y8 m F ts
def Z8(N:a6):Nat->Int->aZ->Rs Nd
 | 0,_,_=>.no 0 0
 | _+1,_,[]=>.no 0 0
 | n+1,d,t::ts=>
  if aF t.bI=[40] then
   if 30<=d then .no 6 t.pos else
   match ts with
   | []=>.no 0 0
   | u::us=>
    match iR (aF u.bI) with
    | none=>.no 2 u.pos
    | some ks=>Z5 2 ks.1 u.bI (nL ks.2 n (Z8 N n (d+1)) (Z4 N n (d+1)) (W8 5) us)
  else if aF t.bI=jm\/aF t.bI=jS then .ok (.mk 0 t.bI 0 []) ts
  else .no 2 t.pos
def TW:aZ->Prop
 | []=>False
 | [t]=>aF t.bI=[]
 | t::u::ts=>aF t.bI≠[]/\TW (u::ts)
theorem TW.tail{t:Tk}{ts:aZ}(h:TW (t::ts))(a:aF t.bI≠[]):TW ts:=by cases ts with|nil=>(exact absurd h a)|cons u b=>exact h.2
theorem TW.ne{ts:aZ}(h:TW ts):ts≠[]:=by intro e;subst e;exact h
theorem TW.last{t:Tk}{ts:aZ}(h:TW (t::ts))(a:aF t.bI=[]):ts=[]:=by cases ts with|nil=>(rfl)|cons u b=>exact absurd a h.1
end Ar
namespace Ar
structure M3 where
 a:BitVec 64
 b:BitVec 64
 c:BitVec 64
def M3.has(s:M3)(k:Nat):Bool:=if k<64 then s.a.getLsbD k else if k<128 then s.b.getLsbD (k-64) else s.c.getLsbD (k-128)
def M3.none:M3:=⟨0,0,0⟩
def M3.or(s t:M3):M3:=⟨s.a ||| t.a,s.b ||| t.b,s.c ||| t.c⟩
def M3.sub(s t:M3):M3:=⟨s.a &&& ~~~t.a,s.b &&& ~~~t.b,s.c &&& ~~~t.c⟩
def M3.of(k:Nat):M3:=if k<64 then⟨BitVec.twoPow 64 k,0,0⟩ else if k<128 then⟨0,BitVec.twoPow 64 (k-64),0⟩ else⟨0,0,BitVec.twoPow 64 (k-128)⟩
theorem M3.Zej(k:Nat):M3.none.has k=false:=by simp[M3.has,M3.none]
theorem M3.CV(s t:M3)(k:Nat):(s.or t).has k=(s.has k||t.has k):=by unfold M3.has M3.or;split;simp;split<;>simp
theorem M3.M4(s t:M3)(k:Nat):(s.sub t).has k=(s.has k&& ! t.has k):=by unfold M3.has M3.sub;split;rename_i h;simp[h];split;rename_i c b;simp[show k-64<64 by omega];by_cases a:k-128<64;simp[a];simp[BitVec.getLsbD_of_ge _ _ (bH:64<=k-128)]
theorem M3.CW{s:M3}{k:Nat}(h:s.has k=true):k<192:=by unfold M3.has at h;split at h;omega;split at h;omega;have:=BitVec.lt_of_getLsbD h;omega
theorem M3.xL{k:Nat}(c:k<192)(j:Nat):(M3.of k).has j=decide (j=k):=by unfold M3.of M3.has;by_cases a:k<64;simp only[a,if_true];split;exact ZcI;split;exact bQ;exact bQ;by_cases b:k<128;simp only[a,b,if_true,if_false];split;exact bQ;split;exact ZcI;exact bQ;simp only[a,b,if_false];split;exact bQ;split;exact bQ;exact ZcI
theorem M3.none_or(s:M3):M3.none.or s=s:=by simp[M3.or,M3.none]
end Ar
namespace Ar
structure Tb where
 bN:Nat->Nat->Int
 cG:Nat->Nat->M3
structure O3 where
 t:Tb
 news:Bool
 df:M3
abbrev bo:=List O3
def Hs(H:Nat->(Nat->Int)->Prop)(s:M3)(v:Nat->Int):Prop:=∀ k,s.has k=true->H k v
theorem Hs.or{H:Nat->(Nat->Int)->Prop}{s t:M3}{v:Nat->Int}:Hs H (s.or t) v↔Hs H s v/\Hs H t v:=by constructor;intro h;exact⟨λk hk=>h k (by rw[M3.CV,hk];rfl),λk hk=>h k (by rw[M3.CV,hk];simp)⟩;rintro⟨h1,h2⟩k hk;exact ZhQ
def X8(K:Nat)(s:M3):Prop:=∀ k,s.has k=true->k<K
theorem X8.or{K:Nat}{s t:M3}(h1:X8 K s)(h2:X8 K t):X8 K (s.or t):=by intro k hk;exact ZhQ
theorem X8.I{K a:Nat}{s:M3}(h:X8 K s)(b:K<=a):X8 a s:=λk e=>cC (h k e) b
theorem X8.none(K:Nat):X8 K M3.none:=λ_ e=>by rw[M3.Zej]at e;exact cT
structure dc(n:Nat)(far:Int)(V:(Nat->Int)->Prop)(H:Nat->(Nat->Int)->Prop)(K:Nat)(T:Tb):Prop where
 diag:∀ i,i<n->T.bN i i=0
 pU:∀ i j k,i<n->j<n->k<n->T.bN i k<=T.bN i j+T.bN j k
 hi:∀ i j,i<n->j<n->T.bN i j<=far
 rO:∀ i j,i<n->j<n->X8 K (T.cG i j)
 snd:∀ i j,i<n->j<n->∀ v,V v->Hs H (T.cG i j) v->v i-v j<=T.bN i j
theorem dc.lo{n:Nat}{far:Int}{V:(Nat->Int)->Prop}{H:Nat->(Nat->Int)->Prop}{K:Nat}{T:Tb}(h:dc n far V H K T){i j:Nat}(a:i<n)(b:j<n):-far<=T.bN i j:=by have d:=h.pU i j i a b a;have c:=h.diag i a;have e:=h.hi j i b a;omega
theorem dc.same{n:Nat}{far:Int}{V:(Nat->Int)->Prop}{H c:Nat->(Nat->Int)->Prop}{K:Nat}{T:Tb}(h:dc n far V H K T)(f:∀k,k<K->∀v,c k v->H k v):dc n far V c K T:=⟨h.diag,h.pU,h.hi,h.rO,λi j d b v e g=>h.snd i j d b v e (λk a=>f k (h.rO i j d b k a) v (g k a))⟩
theorem dc.more{n:Nat}{far:Int}{V:(Nat->Int)->Prop}{H:Nat->(Nat->Int)->Prop}{K a:Nat}{T:Tb}(h:dc n far V H K T)(c:K<=a):dc n far V H a T:=⟨h.diag,h.pU,h.hi,λi j d b=>(h.rO i j d b).I c,h.snd⟩
def kK(n:Nat)(a T:Tb):Prop:=∀ i j,i<n->j<n->a.bN i j<=T.bN i j
theorem kK.refl(n:Nat)(T:Tb):kK n T T:=λ_ _ _ _=>zD _
theorem kK.z{n:Nat}{A B C:Tb}(d:kK n A B)(c:kK n B C):kK n A C:=λi j b a=>Ct (d i j b a) (c i j b a)
def Tb.ek(n:Nat)(T:Tb)(i j:Nat)(m:Int)(mw:M3):Tb where
 bN:=fun f t=>if f<n/\t<n/\T.bN f i+m+T.bN j t<T.bN f t then T.bN f i+m+T.bN j t else T.bN f t
 cG:=fun f t=>if f<n/\t<n/\T.bN f i+m+T.bN j t<T.bN f t then((T.cG f i).or mw).or (T.cG j t) else T.cG f t
theorem CX{n:Nat}{T:Tb}{i j:Nat}{m:Int}{mw:M3}(f t:Nat):(T.ek n i j m mw).bN f t<=T.bN f t:=ZmL
theorem Vo{n:Nat}{T:Tb}{i j:Nat}{m:Int}{mw:M3}{f t:Nat}(a:f<n)(b:t<n):(T.ek n i j m mw).bN f t<=T.bN f i+m+T.bN j t:=ZmL
theorem M5{n:Nat}{T:Tb}{i j:Nat}{m:Int}{mw:M3}(f t:Nat):(T.ek n i j m mw).bN f t=T.bN f t\/(T.ek n i j m mw).bN f t=T.bN f i+m+T.bN j t:=by simp only[Tb.ek];split;exact .inr rfl;exact .inl rfl
theorem jP5{n:Nat}{far:Int}{V:(Nat->Int)->Prop}{H:Nat->(Nat->Int)->Prop}{K:Nat}{T:Tb}(h:dc n far V H K T){i j:Nat}{m:Int}{mw:M3}(l:i<n)(o:j<n)(hb:0<=m+T.bN j i)(q:X8 K mw)(x:∀v,V v->Hs H mw v->v i-v j<=m):dc n far V H K (T.ek n i j m mw):=by refine⟨λa f=>? _,λa b c f d k=>? _,λa b f d=>? _,λa b f d=>? _,λa b f d v p g=>? _⟩;have u:=h.diag a f;have t:=h.pU j a i o f l;rcases M5 (n:=n) (T:=T) (i:=i) (j:=j) (m:=m) (mw:=mw) a a with e|e;omega;have w:=CX (n:=n) (T:=T) (i:=i) (j:=j) (m:=m) (mw:=mw) a a;omega;have B:=CX (n:=n) (T:=T) (i:=i) (j:=j) (m:=m) (mw:=mw) a c;have y:=Vo (T:=T) (i:=i) (j:=j) (m:=m) (mw:=mw) f k;have D:=h.pU a b c f d k;have z:=h.pU a b i f d l;have A:=h.pU j b c o d k;have C:=h.pU j b i o d l;rcases M5 (n:=n) (T:=T) (i:=i) (j:=j) (m:=m) (mw:=mw) a b with s|s<;>rcases M5 (n:=n) (T:=T) (i:=i) (j:=j) (m:=m) (mw:=mw) b c with r|r<;>rw[s,r]<;>omega;have:=CX (n:=n) (T:=T) (i:=i) (j:=j) (m:=m) (mw:=mw) a b;have:=h.hi a b f d;omega;simp only[Tb.ek];split;exact((h.rO a i f l).or q).or (h.rO j b o d);exact h.rO a b f d;simp only[Tb.ek]at g⊢;split;rename_i k;rw[bO k,Hs.or,Hs.or]at g;have u:=h.snd a i f l v p g.1.1;have t:=x v p g.1.2;have w:=h.snd j b o d v p g.2;omega;rename_i k;rw[bL k]at g;exact h.snd a b f d v p g
theorem Vp{n:Nat}{far:Int}{V:(Nat->Int)->Prop}{H:Nat->(Nat->Int)->Prop}{K:Nat}{T:Tb}(h:dc n far V H K T){i j:Nat}{m:Int}(a:i<n)(b:j<n)(hb:0<=m+T.bN j i)(f t:Nat)(c:t<n):(f=j\/t=i)->¬T.bN f i+m+T.bN j t<T.bN f t:=by have d:=h.pU j i t b a c;have d1:=h.diag i a;have d2:=h.diag j b;rintro(rfl|rfl);omega;omega
def nM(f:Nat->Int):Nat->Int
 | 0=>0
 | k+1=>nM f k+f k
theorem CY{f g:Nat->Int}:∀n,(∀i,i<n->f i<=g i)->nM f n<=nM g n|0,_=>zD _|n+1,h=>by have b:=CY n (λi _=>h i bH);have a:=h n bH;simp only[nM];omega
theorem M6{f g:Nat->Int}:∀n,(∀i,i<n->f i<=g i)->(∃i,i<n/\f i<g i)->nM f n<nM g n|0,_,h=>by{obtain⟨i,b,_⟩:=h;omega}|n+1,h,hx=>by obtain⟨i,b,a⟩:=hx;have d:=CY n (λi b=>h i bH);have c:=h n bH;simp only[nM];by_cases e:i=n;subst e;omega;have j:=M6 n (λi b=>h i bH) ⟨i,bH,a⟩;omega
def tj(n:Nat)(T:Tb):Int:=nM (fun i=>nM (fun j=>T.bN i j) n) n
theorem Vq{n:Nat}{T U:Tb}(h:kK n T U):tj n T<=tj n U:=CY n (λi b=>CY n (λj a=>h i j b a))
theorem jP6{n:Nat}{T U:Tb}(h:kK n T U){i j:Nat}(b:i<n)(a:j<n)(c:T.bN i j<U.bN i j):tj n T<tj n U:=M6 n (λi b=>CY n (λj a=>h i j b a)) ⟨i,b,M6 n (λj a=>h i j b a) ⟨j,a,c⟩⟩
theorem M7{f:Nat->Int}{b:Int}:∀n,(∀i,i<n->b<=f i)->b*(n:Int)<=nM f n|0,_=>by{simp[nM]}|n+1,h=>by have c:=M7 n (λi _=>h i bH);have a:=h n bH;simp only[nM];have d:b*((n+1:Nat):Int)=b*(n:Int)+b:=by{rw[show((n+1:Nat):Int)=(n:Int)+1 from rfl,Int.mul_add,Int.mul_one]};omega
structure fJ(n:Nat)(far:Int)(V:(Nat->Int)->Prop)(H:Nat->(Nat->Int)->Prop)(K:Nat)(X Y:O3)(ok:Bool):Prop where
 inv:ok=true->dc n far V H K Y.t
 le:kK n Y.t X.t
 news:Y.news=false->X.news=false/\Y.t=X.t
 bad:ok=false->X8 K Y.df/\∀ v,V v->¬Hs H Y.df v
 dec:Y.news=true->X.news=true\/tj n Y.t<tj n X.t
theorem fJ.z{n:Nat}{far:Int}{V:(Nat->Int)->Prop}{H:Nat->(Nat->Int)->Prop}{K:Nat}{X Y Z:O3}{a b:Bool}(f:fJ n far V H K X Y a)(c:fJ n far V H K Y Z b):fJ n far V H K X Z b:=⟨c.inv,c.le.z f.le,λe=>by obtain⟨h,g⟩:=c.news e;obtain⟨i,j⟩:=f.news h;exact⟨i,g.z j⟩,c.bad,λe=>by have k:=Vq f.le;have l:=Vq c.le;rcases c.dec e with d|d;rcases f.dec d with d|d;exact .inl d;exact lQ;exact lQ⟩
theorem fJ.refl{n:Nat}{far:Int}{V:(Nat->Int)->Prop}{H:Nat->(Nat->Int)->Prop}{K:Nat}{X:O3}(h:dc n far V H K X.t):fJ n far V H K X X true:=⟨λ_=>h,kK.refl _ _,λe=>⟨e,rfl⟩,λe=>cT,λe=>.inl e⟩
def O3.uY(n:Nat)(X:O3)(i j:Nat)(m:Int)(mw:M3):O3 × Bool :=
 if m+X.t.bN j i<0 then(⟨X.t,X.news,mw.or (X.t.cG j i)⟩,false)
 else if X.t.bN i j<=m then(X,true)
 else(⟨X.t.ek n i j m mw,true,X.df⟩,true)
theorem qS4{n:Nat}{far:Int}{V:(Nat->Int)->Prop}{H:Nat->(Nat->Int)->Prop}{K:Nat}{X:O3}(h:dc n far V H K X.t){i j:Nat}{m:Int}{mw:M3}(c:i<n)(d:j<n)(f:X8 K mw)(o:∀v,V v->Hs H mw v->v i-v j<=m):fJ n far V H K X (X.uY n i j m mw).1 (X.uY n i j m mw).2/\((X.uY n i j m mw).2=true->(X.uY n i j m mw).1.t.bN i j<=m):=by unfold O3.uY;by_cases l:m+X.t.bN j i<0;rw[bO l];refine⟨⟨λe=>cT,kK.refl _ _,λe=>⟨e,rfl⟩,λ_=>⟨f.or (h.rO j i d c),λv p k=>? _⟩,λe=>.inl e⟩,λe=>cT⟩;rw[Hs.or]at k;have r:=o v p k.1;have s:=h.snd j i d c v p k.2;omega;rw[bL l];by_cases g:X.t.bN i j<=m;rw[bO g];exact⟨fJ.refl h,λ_=>g⟩;rw[bL g];have q:=Vo (T:=X.t) (i:=i) (j:=j) (m:=m) (mw:=mw) c d;have d1:=h.diag i c;have d2:=h.diag j d;exact⟨⟨λ_=>jP5 h c d bH f o,λa b _ _=>CX a b,λe=>cT,λe=>cT,λ_=>.inr (jP6 (λa b _ _=>CX a b) c d (by show(X.t.ek n i j m mw).bN i j<X.t.bN i j;omega))⟩,λ_=>(by show(X.t.ek n i j m mw).bN i j<=m;omega)⟩
end Ar
namespace Ar
theorem CZ(u m:Nat){b c:Nat}(hb:b<256)(f:c<256):(256*u+b)&&&(256*m+c)=256*(u&&&m)+(b&&&c):=by
 have d:b&&&c<256:=Nat.lt_of_le_of_lt Nat.and_le_left hb;apply Nat.eq_of_testBit_eq;intro i;have a:∀{x y:Nat},y<256->(256*x+y).testBit i=if i<8 then y.testBit i else x.testBit (i-8):=by intro x y e;have:=Nat.testBit_two_pow_mul_add x (i:=8) (b:=y) e i;exact dC
 rw[Nat.testBit_and,a hb,a f,a d];split<;>simp
def s1(m x:Nat):Nat:=((x/2) &&& m)+(x &&& m)
def s2(m x:Nat):Nat:=((x/4) &&& m)+(x &&& m)
def s3(m x:Nat):Nat:=(x/16+x) &&& m
theorem jQ0:∀a,a<256->∀r,r<2->((128*r+a/2)&&&0x55)=((a/2)&&&0x55):=dE
theorem jQ1:∀a,a<256->∀r,r<4->((64*r+a/4)&&&0x33)=((a/4)&&&0x33):=dE
theorem jQ2:∀a,a<69->∀r,r<5->((16*r+a/16+a)&&&0x0f)=((a/16+a)&&&0x0f):=dE
theorem uZ(m q:Nat){a:Nat}(b:a<256):s1 (256*m+0x55) (256*q+a)=256*s1 m q+s1 0x55 a:=by unfold s1;have e:(256*q+a)/2=256*(q/2)+(128*(q%2)+a/2):=bH;rw[e,CZ _ _ bH bH,CZ _ _ b bH,jQ0 a b (q%2) bH];omega
theorem u'(m q:Nat){a:Nat}(b:a<256):s2 (256*m+0x33) (256*q+a)=256*s2 m q+s2 0x33 a:=by unfold s2;have e:(256*q+a)/4=256*(q/4)+(64*(q%4)+a/4):=bH;rw[e,CZ _ _ bH bH,CZ _ _ b bH,jQ1 a b (q%4) bH];omega
theorem vb(m q:Nat){a:Nat}(c:a<69)(b:q%16<5):s3 (256*m+0x0f) (256*q+a)=256*s3 m q+s3 0x0f a:=by unfold s3;have e:(256*q+a)/16+(256*q+a)=256*(q/16+q)+(16*(q%16)+a/16+a):=bH;rw[e,CZ _ _ bH bH,jQ2 a c (q%16) b]
theorem ve:∀a,a<256->s1 0x55 a<256:=dE
theorem vf:∀a,a<256->s2 0x33 (s1 0x55 a)<69/\s2 0x33 (s1 0x55 a)%16<5:=dE
theorem vg:∀a,a<256->s3 0x0f (s2 0x33 (s1 0x55 a))<=8/\(s3 0x0f (s2 0x33 (s1 0x55 a))=0↔a=0):=dE
def zN(x:Nat):Nat:=s3 0x0F0F0F0F0F0F0F0F (s2 0x3333333333333333 (s1 0x5555555555555555 x))
def tp(a:Nat):Nat:=s3 0x0f (s2 0x33 (s1 0x55 a))
theorem jQ3(m:Nat):s1 m 0=0:=by simp[s1]
theorem jQ4(m:Nat):s2 m 0=0:=by simp[s2]
theorem jQ5(m:Nat):s3 m 0=0:=by simp[s3]
theorem jm4{n o p h j i l b:Nat}(c:n<256)(e:o<256)(a:p<256)(k:h<256)(d:j<256)(g:i<256)(m:l<256)(f:b<256):zN (256*(256*(256*(256*(256*(256*(256*(256*0+b)+l)+i)+j)+h)+p)+o)+n)=256*(256*(256*(256*(256*(256*(256*(256*0+tp b)+tp l)+tp i)+tp j)+tp h)+tp p)+tp o)+tp n:=by have q:(0x5555555555555555:Nat)=256*(256*(256*(256*(256*(256*(256*(256*0+0x55)+0x55)+0x55)+0x55)+0x55)+0x55)+0x55)+0x55:=dE;have A:(0x3333333333333333:Nat)=256*(256*(256*(256*(256*(256*(256*(256*0+0x33)+0x33)+0x33)+0x33)+0x33)+0x33)+0x33)+0x33:=dE;have v:(0x0F0F0F0F0F0F0F0F:Nat)=256*(256*(256*(256*(256*(256*(256*(256*0+0x0f)+0x0f)+0x0f)+0x0f)+0x0f)+0x0f)+0x0f)+0x0f:=dE;unfold zN;rw[q,A,v];rw[uZ _ _ c,uZ _ _ e,uZ _ _ a,uZ _ _ k,uZ _ _ d,uZ _ _ g,uZ _ _ m,uZ _ _ f,jQ3];rw[u' _ _ (ve _ c),u' _ _ (ve _ e),u' _ _ (ve _ a),u' _ _ (ve _ k),u' _ _ (ve _ d),u' _ _ (ve _ g),u' _ _ (ve _ m),u' _ _ (ve _ f),jQ4];have w:=vf _ c;have r:=vf _ e;have y:=vf _ a;have u:=vf _ k;have z:=vf _ d;have s:=vf _ g;have t:=vf _ m;have x:=vf _ f;rw[vb _ _ w.1 bH,vb _ _ r.1 bH,vb _ _ y.1 bH,vb _ _ u.1 bH,vb _ _ z.1 bH,vb _ _ s.1 bH,vb _ _ t.1 bH,vb _ _ x.1 bH,jQ5];rfl
def zO(x:Nat):Nat:=x+x/256+(x+x/256)/65536+(x+x/256+(x+x/256)/65536)/4294967296
theorem jZ4{x:Nat}(w:x<18446744073709551616):∃m n o i k j l h:Nat,m<256/\n<256/\o<256/\i<256/\k<256/\j<256/\l<256/\h<256/\x=256*(256*(256*(256*(256*(256*(256*(256*0+h)+l)+j)+k)+i)+o)+n)+m:=by obtain⟨f,_⟩:∃y,y=x/256:=⟨_,rfl⟩;obtain⟨e,_⟩:∃y,y=f/256:=⟨_,rfl⟩;obtain⟨a,_⟩:∃y,y=e/256:=⟨_,rfl⟩;obtain⟨d,_⟩:∃y,y=a/256:=⟨_,rfl⟩;obtain⟨b,_⟩:∃y,y=d/256:=⟨_,rfl⟩;obtain⟨c,_⟩:∃y,y=b/256:=⟨_,rfl⟩;obtain⟨g,_⟩:∃y,y=c/256:=⟨_,rfl⟩;have s:g<256:=bH;refine⟨x%256,f%256,e%256,a%256,d%256,b%256,c%256,g,bH,bH,bH,bH,bH,bH,bH,s,? _⟩;have q:256*(256*0+g)+c%256=c:=bH;rw[q];have p:256*c+b%256=b:=bH;rw[p];have v:256*b+d%256=d:=bH;rw[v];have u:256*d+a%256=a:=bH;rw[u];have r:256*a+e%256=e:=bH;rw[r];have t:256*e+f%256=f:=bH;rw[t];omega
theorem jQ6{y i k j n l m o c0 c1 c2 c3 c4 c5 q r:Nat}(A:c0<=8)(u:c1<=8)(F:c2<=8)(x:c3<=8)(G:c4<=8)(v:c5<=8)(w:q<=8)(C:r<=8)(a:o=r)(g:m=256*o+q)(f:l=256*m+c5)(d:n=256*l+c4)(e:j=256*n+c3)(c:k=256*j+c2)(b:i=256*k+c1)(h:y=256*i+c0):zO y<18446744073709551616/\zO y%128=c0+c1+c2+c3+c4+c5+q+r:=by
 have p:y/256=i:=by clear a g f d e c b;omega
 unfold zO;rw[p];have s:(y+i)/65536=k+j:=by have:y+i=65536*(k+j)+256*(c1+c2)+(c0+c1):=by{clear a g f d;omega};rw[this];clear a g f d e c b h this p;omega
 rw[s];have t:(y+i+(k+j))/4294967296=n+l+(m+o):=by have:y+i+(k+j)=4294967296*(n+l+(m+o))+16777216*(c3+c4+c5+q)+65536*(c2+c3+c4+c5)+256*(c1+c2+c3+c4)+(c0+c1+c2+c3):=by{clear p s;subst h b c e;clear a;omega};rw[this];clear a g f d e c b h this p s;omega
 rw[t];clear p s t;constructor;have J:m<=2056:=by clear f d e c b h;omega
 have z:l<=526344:=by clear g a d e c b h;omega
 have D:n<=134744072:=by clear g a f e c b h;omega
 have B:j<=34494482440:=by clear g a f d c b h;omega
 have I:k<=8830587504648:=by clear g a f d e b h;omega
 have H:i<=2260630401189896:=by clear g a f d e c h;omega
 have E:y<=578721382704613384:=by clear g a f d e c b;omega
 clear g f d e c b h;omega;have:y+i+(k+j)+(n+l+(m+o))=256*(i+k+(j+n)+(l+m+o))+(c0+c1+c2+c3+c4+c5+q+r):=bH;rw[this];clear g a f d e c b h this;omega
theorem jQ7{x:Nat}(m:x<18446744073709551616):zO (zN x)<18446744073709551616/\(zO (zN x)%128=0↔x=0):=by
 obtain⟨B,C,D,w,z,y,A,v,o,q,n,t,p,s,u,r,e⟩:=jZ4 m;have i:=vg _ o;have d:=vg _ q;have k:=vg _ n;have h:=vg _ t;have l:=vg _ p;have f:=vg _ s;have g:=vg _ u;have j:=vg _ r;have b:=jQ6 i.1 d.1 k.1 h.1 l.1 f.1 g.1 j.1 rfl rfl rfl rfl rfl rfl rfl rfl;have a:=jm4 o q n t p s u r;rw[<-e]at a;simp only[Nat.mul_zero,pM]at a;unfold tp at a;rw[<-a]at b;refine⟨b.1,? _⟩;rw[b.2];have c:x=0↔B=0/\C=0/\D=0/\w=0/\z=0/\y=0/\A=0/\v=0:=by constructor;intro m;rw[m]at e;clear b a i d k h l f g j;omega;rintro⟨rfl,rfl,rfl,rfl,rfl,rfl,rfl,rfl⟩;exact e
 rw[c,<-i.2,<-d.2,<-k.2,<-h.2,<-l.2,<-f.2,<-g.2,<-j.2];clear b a c e i d k h l f g j;omega
end Ar
namespace Ar
structure Ed where
 a:Nat
 b:Nat
 c:Int
abbrev bt:=List (List Ed)
abbrev bm:=List Ed
def dI(l:bm)(u:Nat->Int):Prop:=∀ e∈l,u e.a<=u e.b+e.c
def iS(n:Nat)(l:bm):Prop:=∀ e∈l,e.a<n/\e.b<n /\ -1001<=e.c/\e.c<=1000
def gv(v:aV)(i:Nat):Int:=(v[i]?).getD 0
def eT(v:aV)(e:Ed):aV:=if gv v e.b+e.c<gv v e.a then v.set e.a (gv v e.b+e.c) else v
def eo(l:bm)(v:aV):aV:=l.foldl eT v
def pV(l:bm)(v:aV):Bool:=match l with
 | []=>true
 | e::l => !(decide (gv v e.b+e.c<gv v e.a)) && pV l (eT v e)
theorem Hb{v:aV}{i:Nat}(h:i<aA v)(x:Int):gv (v.set i x) i=x:=by simp[gv,h]
theorem M8{v:aV}{i j:Nat}(h:¬i=j)(x:Int):gv (v.set i x) j=gv v j:=by simp[gv,h]
theorem tq(v:aV)(e:Ed):aA (eT v e)=aA v:=by unfold eT;split<;>simp
theorem jB2(l:bm):∀v,aA (eo l v)=aA v:=by induction l with|nil=>(intro v;rfl)|cons e l a=>intro v;show aA (eo l (eT v e))=_;rw[a,tq]
theorem Vr{v:aV}{e:Ed}(h:e.a<aA v)(i:Nat):gv (eT v e) i<=gv v i:=by unfold eT;split;by_cases a:e.a=i;subst a;rw[Hb h];omega;rw[M8 a];omega;omega
theorem Vs{v:aV}{e:Ed}{d:Nat->Int}(h:e.a<aA v)(hd:d e.a<=d e.b+e.c)(a:∀i,i<aA v->d i<=gv v i)(hb:e.b<aA v):∀i,i<aA (eT v e)->d i<=gv (eT v e) i:=by intro i b;rw[tq]at b;unfold eT;split;by_cases c:e.a=i;subst c;rw[Hb h];have:=a e.b hb;omega;rw[M8 c];exact a i b;exact a i b
theorem M9{l:bm}:∀{v:aV},iS (aA v) l->∀i,gv (eo l v) i<=gv v i:=by induction l with|nil=>(intro v _ i;exact Int.le_refl _)|cons e l a=>intro v h i;have c:=Vr (h e bK).1 i;have b:=a (v:=eT v e) ZjA i;show gv (eo l (eT v e)) i<=_;omega
theorem M'{l:bm}{d:Nat->Int}:∀{v:aV},iS (aA v) l->dI l d->(∀i,i<aA v->d i<=gv v i)->∀i,i<aA v->d i<=gv (eo l v) i:=by induction l with|nil=>(intro v _ _ h i a;exact h i a)|cons e l f=>intro v h c g i a;have b:=h e bK;show d i<=gv (eo l (eT v e)) i;exact f (v:=eT v e) ZjA (λx hx=>c x (by simp[hx])) (Vs b.1 (c e bK) g b.2.1) i (by rw[tq];exact a)
theorem jl2{l:bm}:∀{v:aV},pV l v=true->eo l v=v/\dI l (gv v):=by induction l with|nil=>(intro v _;exact⟨rfl,by intro e f;simp at f⟩)|cons e l g=>intro v h;unfold pV at h;rw[Bool.and_eq_true]at h;obtain⟨h1,b⟩:=h;have j:¬gv v e.b+e.c<gv v e.a:=uK;have c:eT v e=v:=by{unfold eT;rw[if_neg j]};rw[c]at b;obtain⟨i,d⟩:=g b;refine⟨by show eo l (eT v e)=v;rw[c];exact i,? _⟩;intro x a;rcases List.mem_cons.1 a with rfl|a;omega;exact d x a
theorem jl3{l:bm}:∀{v:aV},dI l (gv v)->pV l v=true:=by induction l with|nil=>(intro v _;rfl)|cons e l a=>intro v h;have d:=h e bK;have b:eT v e=v:=by{unfold eT;rw[if_neg bH]};unfold pV;rw[b,Bool.and_eq_true];exact⟨bQ,a (λx c=>h x (by simp[c]))⟩
def y8(f:Nat->Nat):Nat->Nat
 | 0=>0
 | n+1=>y8 f n+f n
theorem zP{f g:Nat->Nat}:∀{n:Nat},(∀i,i<n->f i<=g i)->y8 f n<=y8 g n|0,_=>cj _|n+1,h=>by have:=zP (n:=n) (λi _=>h i bH);have:=h n bH;exact GG
theorem Hc{f g:Nat->Nat}:∀{n:Nat},(∀i,i<n->f i<=g i)->(∃i,i<n/\f i<g i)->y8 f n<y8 g n|0,_,h=>by{obtain⟨i,c,_⟩:=h;omega}|n+1,h,hx=>by obtain⟨i,c,a⟩:=hx;have d:=h n bH;simp only[y8];by_cases e:i=n;subst e;have:=zP (n:=i) (λj b=>h j bH);omega;have:=Hc (n:=n) (λj b=>h j bH) ⟨i,bH,a⟩;omega
def zQ(n:Nat)(l:bm)(d:Nat->Int):Prop :=
 ∀ S:Nat->Prop,(∃ i,i<n/\S i)->(∀ i,i<n->S i->d i<0)->∃ e∈l,S e.a/\¬S e.b/\d e.a=d e.b+e.c
theorem jl4{n:Nat}{l:bm}:∀(k:Nat)(d:Nat->Int),y8 (λi=>(-d i).toNat) n<=k->dI l d->(∀i,i<n->d i<=0)->∃d',dI l d'/\(∀i,i<n->d' i<=0)/\zQ n l d':=by intro k;induction k with|zero=>(intro d s h m;refine⟨d,h,m,? _⟩;intro S ⟨i,b,p⟩a;have q:=a i b p;have:=Hc (f:=λ_=>0) (g:=λi=>(-d i).toNat) (n:=n) (λj _=>bH) ⟨i,b,by show 0<(-d i).toNat;omega⟩;have w:y8 (λ_=>0) n<=y8 (λi=>(-d i).toNat) n:=zP (λ_ _=>Nat.zero_le _);omega)|succ k u=>intro d s h m;by_cases c:zQ n l d;exact⟨d,h,m,c⟩;unfold zQ at c;simp only[Classical.not_forall,not_exists,not_and]at c;obtain⟨S,⟨i,b,p⟩,a,q⟩:=c;classical refine u (λj=>if S j then d j+1 else d j) ? _ ? _ ? _;have:=Hc (f:=λj=>(-(if S j then d j+1 else d j)).toNat) (g:=λj=>(-d j).toNat) (n:=n) (λj o=>by by_cases e:S j;have:=a j o e;simp only[if_pos e];omega;simp only[if_neg e];omega) ⟨i,b,by have:=a i b p;simp only[if_pos p];omega⟩;omega;intro e r;have x:=h e r;have t:=q e r;by_cases v:S e.a<;>by_cases hb:S e.b<;>simp only[v,hb,if_pos,if_neg,not_false_eq_true,true_implies]at t⊢<;>omega;intro j o;by_cases e:S j;have:=a j o e;simp only[if_pos e];omega;simp only[if_neg e];exact m j o
theorem jB3{n:Nat}{l:bm}{u:Nat->Int}(c:dI l u):∃d,dI l d/\(∀i,i<n->d i<=0)/\zQ n l d:=by
 have hb:∃M:Int,∀i,i<n->u i<=M:=by clear c;induction n with|zero=>(exact⟨0,λi b=>bH⟩)|succ n f=>obtain⟨M,a⟩:=f;refine⟨max M (u n),λi b=>? _⟩;by_cases e:i=n;subst e;omega;have:=a i bH;omega
 obtain⟨M,a⟩:=hb;exact jl4 _ (λi=>u i-M) (cj _) (λe g=>by have:=c e g;show u e.a-M<=u e.b-M+e.c;omega) (λi b=>by have:=a i b;show u i-M<=0;omega)
def rP(d:Nat->Int)(v:aV)(n:Nat):Nat:=y8 (fun i=>if gv v i=d i then 0 else 1) n
theorem Vt{d:Nat->Int}{v:aV}:∀{n:Nat},rP d v n=0->∀i,i<n->gv v i=d i|0,_,i,hi=>bH|n+1,h,i,hi=>by have b:rP d v n+(if gv v n=d n then 0 else 1)=0:=h;by_cases e:i=n;subst e;by_cases a:gv v i=d i;exact a;rw[bL a]at b;omega;exact Vt (n:=n) bH i bH
theorem jB4{l:bm}{d:Nat->Int}{e:Ed}:∀{v:aV},iS (aA v) l->dI l d->(∀i,i<aA v->d i<=gv v i)->e∈l->gv v e.b=d e.b->d e.a=d e.b+e.c->gv (eo l v) e.a=d e.a:=by induction l with|nil=>(intro v _ _ _ f;simp at f)|cons x l t=>intro v h o q f _ s;have b:=h x bK;have j:iS (aA (eT v x)) l:=by{rw[tq];exact λy hy=>h y GH};have c:dI l d:=λy hy=>o y GH;have a:=Vs b.1 (o x bK) q b.2.1;show gv (eo l (eT v x)) e.a=d e.a;by_cases p:e=x;subst p;have m:gv (eT v e) e.a=d e.a:=by{have r:=q e.a b.1;have n:=a e.a (by rw[tq];exact b.1);unfold eT at n⊢;split;rw[Hb b.1];omega;omega};have u:=M' j c a e.a (by rw[tq];exact b.1);have w:=M9 j e.a;omega;have k:e∈l:=by{rcases List.mem_cons.1 f with h|h;exact absurd h p;exact h};have g:e.b<aA v:=(h e f).2.1;have m:gv (eT v x) e.b=d e.b:=by{have r:=Vr b.1 e.b;have n:=a e.b (by rw[tq];exact g);omega};exact t j c a k m s
theorem jl5{l:bm}{d:Nat->Int}{v:aV}(h:iS (aA v) l)(g:dI l d)(k:zQ (aA v) l d)(f:∀i,i<aA v->d i<=gv v i)(m:∀i,i<aA v->gv v i<=0)(y:0<rP d v (aA v)):rP d (eo l v) (aA v)<rP d v (aA v):=by
 have c:∃i,i<aA v/\¬gv v i=d i:=by refine uP λq=>? _;have:rP d v (aA v)=0:=by{have u:rP d v (aA v)<=y8 (λ_=>0) (aA v):=zP (λi a=>by have:gv v i=d i:=uP λe=>q ⟨i,a,e⟩;simp[this]);have p:∀n,y8 (λ_=>0) n=0:=by{intro n;induction n with|zero=>(rfl)|succ n s=>simp[y8,s]};have:=p (aA v);omega};omega
 obtain⟨e,j,t,hb,o⟩:=k (λi=>¬gv v i=d i) c (λi a _=>by have:=f i a;have:=m i a;omega);have hb:gv v e.b=d e.b:=uP hb;have b:=h e j;refine Hc (λi a=>? _) ⟨e.a,b.1,? _⟩;by_cases r:gv v i=d i;have x:=M9 h i;have w:=M' h g f i a;rw[bO bH];omega;rw[bL r];exact pK;rw[bO (jB4 h g f j hb o),bL t];omega
def oK(l:bm):Nat->aV->Option (aV)
 | 0,_=>none
 | k+1,v=>if pV l v=true then aQ (eo l v) else oK l k (eo l v)
theorem Vu{l:bm}{d:Nat->Int}:∀{k:Nat}{v:aV},iS (aA v) l->dI l d->zQ (aA v) l d->(∀i,i<aA v->d i<=gv v i)->(∀i,i<aA v->gv v i<=0)->rP d v (aA v)<k->oK l k v≠none|0,v,_,_,_,_,_,hk=>bH|k+1,v,h,hs,ht,hv,h0,hk=>by unfold oK;split;simp;rename_i c;have j:0<rP d v (aA v):=by{refine uP λf=>c (jl3 ? _);have f:=Vt (n:=aA v) (d:=d) (v:=v) bH;intro e g;have a:=h e g;rw[f e.a a.1,f e.b a.2.1];exact hs e g};have m:=jl5 h hs ht hv h0 j;have hl:=jB2 l v;refine Vu (by rw[hl];exact h) hs (by rw[hl];exact ht) (λi b=>M' h hs hv i (by rw[hl]at b;exact b)) (λi b=>? _) xv;have:=M9 h i;have:=h0 i (by rw[hl]at b;exact b);omega
theorem Na(n i:Nat):gv (List.replicate n 0) i=0:=by simp only[gv,zE];split<;>rfl
theorem qG3{n:Nat}{l:bm}(h:iS n l)(b:∃u,dI l u):oK l (n+1) (List.replicate n 0)≠none:=by
 obtain⟨u,b⟩:=b;obtain⟨d,g,e,k⟩:=jB3 (n:=n) b;have a:aA (List.replicate n (0:Int))=n:=bK;refine Vu (d:=d) (by rw[a];exact h) g (by rw[a];exact k) (λi c=>? _) (λi c=>? _) ? _;rw[Na];exact e i bH;rw[Na];omega;rw[a];have j:rP d (List.replicate n 0) n<=y8 (λ_=>1) n:=zP (λi c=>pK);have:∀m,y8 (λ_=>1) m=m:=by intro m;induction m with|zero=>(rfl)|succ m f=>simp[y8,f]
 have:=this n;omega
end Ar
section
open Go
def qz(J:Nat->Act->World->Prop)(Q:Exit->Act->World->Prop):Exit->Act->World->Prop
 | .goto l,a,w=>J l a w
 | e,a,w=>Q e a w
section
variable{P:Program}{a:Act}{w:World}{Q:Exit->Act->World->Prop}
theorem zW0{c:Code}(J:Nat->Nat->Act->World->Prop)(s:c.wp P (qz (λl a w=>∃n,J l n a w) Q) a w)(eo:∀l n a w,J l n a w->∃rest,findLabel c l=aQ rest/\rest.wp P (qz (λp a' w'=>∃q,q<n/\J p q a' w') Q) a w):(Code.scope c).wp P Q a w:=by
 intro b k cs;have B:∀n l a w rest,J l n a w->findLabel c l=aQ rest->∃e a' w',Q e a' w'/\Arrives P (lone (b.at a (.code rest::.inScope c::k)) cs w) b k cs e a' w':=by intro n;induction n using Nat.strongRecOn with|_ n I=>intro l a w rest H G;obtain⟨t,u,F⟩:=eo l n a w H;obtain rfl:rest=t:=by{rw[G]at u;exact Option.some.inj u};obtain⟨e,h,g,j,d⟩:=F b (.inScope c::k) cs;cases e with|normal=>(exact⟨.normal,h,g,j,Steps.z d (.one step_inScope)⟩)|exit id=>(exact⟨.exit id,h,g,j,λA z=>d A (by simp[exitTo,z])⟩)|goto p=>(obtain⟨q,v,m⟩:=j;obtain⟨f,o,_⟩:=eo p q h g m;have y:gotoIn p (.inScope c::k)=aQ (.code f::.inScope c::k):=by{simp[gotoIn,o]};obtain⟨x,C,D,r,i⟩:=I q v p h g f m o;exact⟨x,C,D,r,.of_steps (d _ y) i⟩)|ret=>(exact⟨_,h,g,j,d⟩)|panic E=>(exact⟨_,h,g,j,d⟩)|outgrown=>exact⟨_,h,g,j,d⟩
 obtain⟨e,h,g,j,d⟩:=s b (.inScope c::k) cs;cases e with|normal=>(exact⟨.normal,h,g,j,.head step_scope (Steps.z d (.one step_inScope))⟩)|exit id=>(exact⟨.exit id,h,g,j,λA z=>.head step_scope (d A (by simp[exitTo,z]))⟩)|goto p=>(obtain⟨q,m⟩:∃n,J p n h g:=j;obtain⟨f,o,_⟩:=eo p q h g m;have y:gotoIn p (.inScope c::k)=aQ (.code f::.inScope c::k):=by{simp[gotoIn,o]};obtain⟨x,C,D,r,i⟩:=B q p h g f m o;exact⟨x,C,D,r,.of_steps (.head step_scope (d _ y)) i⟩)|ret=>(exact⟨_,h,g,j,.of_steps (.one step_scope) d⟩)|panic E=>(exact⟨_,h,g,j,.of_steps (.one step_scope) d⟩)|outgrown=>exact⟨_,h,g,j,.of_steps (.one step_scope) d⟩
end
end
end Go.Proofs.YtegbdaffhpiacaaGreatDoor
