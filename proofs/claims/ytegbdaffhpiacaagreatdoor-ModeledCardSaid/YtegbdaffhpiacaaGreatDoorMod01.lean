/- A part of the proof. -/
set_option maxRecDepth 100000
namespace Go.Proofs.YtegbdaffhpiacaaGreatDoor
namespace Ar
structure Tk where
 pos:Nat
 txt:ByteArray
structure Nm where
 name:ByteArray
 ar:Int
 fr:Int
def zn9:List UInt8:=[116,114,117,101]
def zh7:List UInt8:=[102,97,108,115,101]
def zk0:List UInt8:=[110,111,116]
def zl0:List UInt8:=[97,110,100]
def wOr:List UInt8:=[111,114]
def zo0:List UInt8:=[105,102,102]
def wLe:List UInt8:=[108,101]
def zE1(l:List UInt8):Bool:=l==zn9 || l==zh7 || l==zk0 || l==zl0 || l==wOr || l==zo0 || l==wLe
def zp6(c:UInt8):Bool:=decide (97<=(c.toNat:Int)/\(c.toNat:Int)<=122)
def zq5(c:UInt8):Bool:=decide (48<=(c.toNat:Int)/\(c.toNat:Int)<=57)
def X6(l:List UInt8):Bool:=l.all zp6 && !zE1 l && (decide (1<=l.length) && decide (l.length<=8))
def val(l:List UInt8):Int:=l.foldl (fun v c=>min (v*10+((c.toNat:Int)-48)) 1001) 0
def l8(l:List UInt8):List UInt8:=if l.head?=some 45 then l.tail else l
def numOf(l:List UInt8):Option Int :=
 if l8 l=[]\/(l8 l).all zq5=false\/((l8 l).head?=some 48/\l≠[48]) then none
 else some (if l.head?=some 45 then-val (l8 l) else val (l8 l))
def zs1(c:UInt8):Bool:=c==32 || c==9 || c==10
def zq8(c:UInt8):Bool:=c==40 || c==41
inductive Nd where
 | mk (kind:Int) (word:ByteArray) (val:Int) (parts:List Nd)
inductive Rs(α:Type) where
 | ok (a:α) (ts:List Tk)
 | no (err:Int) (pos:Nat)
def za8(N:List Nm)(l:List UInt8):Option Int:=(N.find? (fun x=>x.name.toList==l)).map (·.ar)
def V5(k:Int):List Tk->Rs Nd
 | []=>.no 0 0
 | t::ts=>
  match numOf t.txt.toList with
  | none=>.no 2 t.pos
  | some v=>if v < -1000\/1000<v then .no 5 t.pos else .ok (.mk k ByteArray.empty v []) ts
def J5:List (List Tk->Rs Nd)->List Tk->Rs (List Nd)
 | [],ts=>.ok [] ts
 | f::fs,ts=>
  match f ts with
  | .no e p=>.no e p
  | .ok a ts'=>
   match J5 fs ts' with
   | .no e p=>.no e p
   | .ok as ts''=>.ok (a::as) ts''
def zb0(f:List Tk->Rs Nd):List Tk->Rs Nd
 | []=>.no 0 0
 | t::ts=>if t.txt.toList=[41] then .no 4 t.pos else f (t::ts)
def zd4(e:Int)(k:Int)(w:ByteArray)(ps:List Nd):List Tk->Rs Nd
 | []=>.no 0 0
 | v::vs=>if v.txt.toList=[41] then .ok (.mk k w 0 ps) vs else if v.txt.toList=[] then .no 2 v.pos else .no e v.pos
def J7(e:Int)(k:Int)(w:ByteArray):Rs (List Nd)->Rs Nd
 | .no e p=>.no e p
 | .ok ps ts=>zd4 e k w ps ts
def X0(N:List Nm):Nat->Int->List Tk->Rs Nd
 | 0,_,_=>.no 0 0
 | _+1,_,[]=>.no 0 0
 | n+1,d,t::ts=>
  if t.txt.toList=[40] then
   if 30<=d then .no 6 t.pos else
   match ts with
   | []=>.no 0 0
   | u::us=>
    if X6 u.txt.toList then
     match za8 N u.txt.toList with
     | none=>.no 3 u.pos
     | some a=>if a=0 then .no 4 u.pos else J7 4 3 u.txt (J5 (List.replicate a.toNat (zb0 (X0 N n (d+1)))) us)
    else .no 2 u.pos
  else if X6 t.txt.toList then
   match za8 N t.txt.toList with
   | none=>.no 3 t.pos
   | some a=>if a=0 then .ok (.mk 3 t.txt 0 []) ts else .no 4 t.pos
  else V5 4 (t::ts)
def zo1(l:List UInt8):Option (Int × Int) :=
 if l=zk0 then some (1,0) else if l=zl0 then some (1,2) else if l=wOr then some (1,2)
 else if l=[61,62] then some (1,1) else if l=zo0 then some (1,1)
 else if l=[61] then some (2,3) else if l=[60] then some (2,3) else if l=[60,61] then some (2,3)
 else if l=wLe then some (2,4) else none
def X8:Nat->(List Tk->Rs Nd)->List Tk->Rs (List Nd)
 | 0,_,_=>.no 0 0
 | _+1,_,[]=>.no 0 0
 | m+1,f,t::ts=>
  if t.txt.toList=[41] then .ok [] (t::ts) else
  match f (t::ts) with
  | .no e p=>.no e p
  | .ok a ts'=>
   match X8 m f ts' with
   | .no e p=>.no e p
   | .ok as ts''=>.ok (a::as) ts''
def l9(s:Int)(m:Nat)(F T B:List Tk->Rs Nd)(ts:List Tk):Rs (List Nd) :=
 if s=0 then J5 [F] ts else if s=1 then J5 [F,F] ts else if s=3 then J5 [T,T] ts else if s=4 then J5 [T,T,B] ts else X8 m F ts
def K6(N:List Nm):Nat->Int->List Tk->Rs Nd
 | 0,_,_=>.no 0 0
 | _+1,_,[]=>.no 0 0
 | n+1,d,t::ts=>
  if t.txt.toList=[40] then
   if 30<=d then .no 6 t.pos else
   match ts with
   | []=>.no 0 0
   | u::us=>
    match zo1 u.txt.toList with
    | none=>.no 2 u.pos
    | some ks=>J7 2 ks.1 u.txt (l9 ks.2 n (K6 N n (d+1)) (X0 N n (d+1)) (V5 5) us)
  else if t.txt.toList=zn9\/t.txt.toList=zh7 then .ok (.mk 0 t.txt 0 []) ts
  else .no 2 t.pos
def TW:List Tk->Prop
 | []=>False
 | [t]=>t.txt.toList=[]
 | t::u::ts=>t.txt.toList≠[]/\TW (u::ts)
theorem TW.tail{t:Tk}{ts:List Tk}(h:TW (t::ts))(ht:t.txt.toList≠[]):TW ts:=by
 cases ts with
 | nil=>exact absurd h ht
 | cons u us=>exact h.2
theorem TW.ne{ts:List Tk}(h:TW ts):ts≠[]:=by intro e;subst e;exact h
end Ar
namespace Ar
structure M3 where
 a:BitVec 64
 b:BitVec 64
 c:BitVec 64
def M3.has(s:M3)(k:Nat):Bool:=if k<64 then s.a.getLsbD k else if k<128 then s.b.getLsbD (k-64) else s.c.getLsbD (k-128)
def M3.none:M3:=⟨0,0,0⟩
def M3.or(s t:M3):M3:=⟨s.a ||| t.a,s.b ||| t.b,s.c ||| t.c⟩
def M3.sub(s t:M3):M3:=⟨s.a &&& ~~~t.a,s.b &&& ~~~t.b,s.c &&& ~~~t.c⟩
def M3.of(k:Nat):M3:=if k<64 then⟨BitVec.twoPow 64 k,0,0⟩ else if k<128 then⟨0,BitVec.twoPow 64 (k-64),0⟩ else⟨0,0,BitVec.twoPow 64 (k-128)⟩
theorem M3.has_none(k:Nat):M3.none.has k=false:=by simp[M3.has,M3.none]
theorem M3.has_or(s t:M3)(k:Nat):(s.or t).has k=(s.has k || t.has k):=by
 unfold M3.has M3.or;split
 ·simp
 ·split<;>simp
theorem M3.has_sub(s t:M3)(k:Nat):(s.sub t).has k=(s.has k && !t.has k):=by
 unfold M3.has M3.sub;split
 ·rename_i h;simp[h]
 ·split
  ·rename_i h1 h2;simp[show k-64<64 by omega]
  ·by_cases h3:k-128<64
   ·simp[h3]
   ·simp[BitVec.getLsbD_of_ge _ _ (by omega:64<=k-128)]
theorem M3.has_lt{s:M3}{k:Nat}(h:s.has k=true):k<192:=by
 unfold M3.has at h;split at h
 ·omega
 ·split at h
  ·omega
  ·have:=BitVec.lt_of_getLsbD h;omega
theorem M3.has_of{k:Nat}(hk:k<192)(j:Nat):(M3.of k).has j=decide (j=k):=by
 unfold M3.of M3.has;by_cases h1:k<64
 ·simp only[h1,if_true];split
  ·rw[Bool.eq_iff_iff];simp[BitVec.getLsbD_twoPow];omega
  ·split
   ·simp;omega
   ·simp;omega
 ·by_cases h2:k<128
  ·simp only[h1,h2,if_true,if_false];split
   ·simp;omega
   ·split
    ·rw[Bool.eq_iff_iff];simp[BitVec.getLsbD_twoPow];omega
    ·simp;omega
  ·simp only[h1,h2,if_false];split
   ·simp;omega
   ·split
    ·simp;omega
    ·rw[Bool.eq_iff_iff];simp[BitVec.getLsbD_twoPow];omega
theorem M3.none_or(s:M3):M3.none.or s=s:=by simp[M3.or,M3.none]
end Ar
namespace Ar
structure Tb where
 by_:Nat->Nat->Int
 why:Nat->Nat->M3
structure W9 where
 t:Tb
 news:Bool
 wrong:M3
def Hs(H:Nat->(Nat->Int)->Prop)(s:M3)(v:Nat->Int):Prop:=∀ k,s.has k=true->H k v
theorem Hs.or{H:Nat->(Nat->Int)->Prop}{s t:M3}{v:Nat->Int}:Hs H (s.or t) v↔Hs H s v/\Hs H t v:=by
 constructor
 ·intro h;exact⟨fun k hk=>h k (by rw[M3.has_or,hk];rfl),fun k hk=>h k (by rw[M3.has_or,hk];simp)⟩
 ·rintro⟨h1,h2⟩ k hk;rw[M3.has_or] at hk;rcases Bool.or_eq_true _ _▸hk with e|e
  ·exact h1 k e
  ·exact h2 k e
def J8(K:Nat)(s:M3):Prop:=∀ k,s.has k=true->k<K
theorem J8.or{K:Nat}{s t:M3}(h1:J8 K s)(h2:J8 K t):J8 K (s.or t):=by
 intro k hk;rw[M3.has_or] at hk;rcases Bool.or_eq_true _ _▸hk with e|e
 ·exact h1 k e
 ·exact h2 k e
theorem J8.mono{K K':Nat}{s:M3}(h:J8 K s)(hk:K<=K'):J8 K' s:=fun k e=>Nat.lt_of_lt_of_le (h k e) hk
theorem J8.none(K:Nat):J8 K M3.none:=fun k e=>by rw[M3.has_none] at e;simp at e
structure V9(n:Nat)(far:Int)(V:(Nat->Int)->Prop)(H:Nat->(Nat->Int)->Prop)(K:Nat)(T:Tb):Prop where
 diag:∀ i,i<n->T.by_ i i=0
 tri:∀ i j k,i<n->j<n->k<n->T.by_ i k<=T.by_ i j+T.by_ j k
 hi:∀ i j,i<n->j<n->T.by_ i j<=far
 mks:∀ i j,i<n->j<n->J8 K (T.why i j)
 snd:∀ i j,i<n->j<n->∀ v,V v->Hs H (T.why i j) v->v i-v j<=T.by_ i j
theorem V9.lo{n:Nat}{far:Int}{V:(Nat->Int)->Prop}{H:Nat->(Nat->Int)->Prop}{K:Nat}{T:Tb}(h:V9 n far V H K T){i j:Nat}(hi:i<n)(hj:j<n):-far<=T.by_ i j:=by have h1:=h.tri i j i hi hj hi;have h2:=h.diag i hi;have h3:=h.hi j i hj hi;omega
theorem V9.same{n:Nat}{far:Int}{V:(Nat->Int)->Prop}{H H':Nat->(Nat->Int)->Prop}{K:Nat}{T:Tb}(h:V9 n far V H K T)(hH:∀ k,k<K->∀ v,H' k v->H k v):V9 n far V H' K T :=
 ⟨h.diag,h.tri,h.hi,h.mks,fun i j hi hj v hv hs=>h.snd i j hi hj v hv (fun k hk=>hH k (h.mks i j hi hj k hk) v (hs k hk))⟩
theorem V9.more{n:Nat}{far:Int}{V:(Nat->Int)->Prop}{H:Nat->(Nat->Int)->Prop}{K K':Nat}{T:Tb}(h:V9 n far V H K T)(hK:K<=K'):V9 n far V H K' T :=
 ⟨h.diag,h.tri,h.hi,fun i j hi hj=>(h.mks i j hi hj).mono hK,h.snd⟩
def TLe(n:Nat)(T' T:Tb):Prop:=∀ i j,i<n->j<n->T'.by_ i j<=T.by_ i j
theorem TLe.refl(n:Nat)(T:Tb):TLe n T T:=fun _ _ _ _=>Int.le_refl _
theorem TLe.trans{n:Nat}{A B C:Tb}(h1:TLe n A B)(h2:TLe n B C):TLe n A C:=fun i j hi hj=>Int.le_trans (h1 i j hi hj) (h2 i j hi hj)
def Tb.lim(n:Nat)(T:Tb)(i j:Nat)(m:Int)(mw:M3):Tb where
 by_:=fun f t=>if f<n/\t<n/\T.by_ f i+m+T.by_ j t<T.by_ f t then T.by_ f i+m+T.by_ j t else T.by_ f t
 why:=fun f t=>if f<n/\t<n/\T.by_ f i+m+T.by_ j t<T.by_ f t then((T.why f i).or mw).or (T.why j t) else T.why f t
theorem zP6{n:Nat}{T:Tb}{i j:Nat}{m:Int}{mw:M3}(f t:Nat):(T.lim n i j m mw).by_ f t<=T.by_ f t:=by simp only[Tb.lim];split<;>omega
theorem qA5{n:Nat}{T:Tb}{i j:Nat}{m:Int}{mw:M3}{f t:Nat}(hf:f<n)(ht:t<n):(T.lim n i j m mw).by_ f t<=T.by_ f i+m+T.by_ j t:=by simp only[Tb.lim];split<;>omega
theorem qu5{n:Nat}{T:Tb}{i j:Nat}{m:Int}{mw:M3}(f t:Nat):(T.lim n i j m mw).by_ f t=T.by_ f t\/(T.lim n i j m mw).by_ f t=T.by_ f i+m+T.by_ j t:=by
 simp only[Tb.lim];split
 ·exact .inr rfl
 ·exact .inl rfl
theorem jh8{n:Nat}{far:Int}{V:(Nat->Int)->Prop}{H:Nat->(Nat->Int)->Prop}{K:Nat}{T:Tb}(h:V9 n far V H K T){i j:Nat}{m:Int}{mw:M3}(hi:i<n)(hj:j<n)(hb:0<=m+T.by_ j i)(hmk:J8 K mw)(hs:∀ v,V v->Hs H mw v->v i-v j<=m):V9 n far V H K (T.lim n i j m mw):=by
 refine⟨fun a ha=>?_,fun a b c ha hb' hc=>?_,fun a b ha hb'=>?_,fun a b ha hb'=>?_,fun a b ha hb' v hv hh=>?_⟩
 ·have h1:=h.diag a ha;have h2:=h.tri j a i hj ha hi;rcases qu5 (n:=n) (T:=T) (i:=i) (j:=j) (m:=m) (mw:=mw) a a with e|e
  ·omega
  ·have h3:=zP6 (n:=n) (T:=T) (i:=i) (j:=j) (m:=m) (mw:=mw) a a;omega
 ·have h0:=zP6 (n:=n) (T:=T) (i:=i) (j:=j) (m:=m) (mw:=mw) a c;have h0':=qA5 (T:=T) (i:=i) (j:=j) (m:=m) (mw:=mw) ha hc;have t1:=h.tri a b c ha hb' hc;have t2:=h.tri a b i ha hb' hi;have t3:=h.tri j b c hj hb' hc;have t4:=h.tri j b i hj hb' hi;rcases qu5 (n:=n) (T:=T) (i:=i) (j:=j) (m:=m) (mw:=mw) a b with e1|e1<;>rcases qu5 (n:=n) (T:=T) (i:=i) (j:=j) (m:=m) (mw:=mw) b c with e2|e2<;>rw[e1,e2]<;>omega
 ·have:=zP6 (n:=n) (T:=T) (i:=i) (j:=j) (m:=m) (mw:=mw) a b;have:=h.hi a b ha hb';omega
 ·simp only[Tb.lim];split
  ·exact((h.mks a i ha hi).or hmk).or (h.mks j b hj hb')
  ·exact h.mks a b ha hb'
 ·simp only[Tb.lim] at hh ⊢;split
  ·rename_i hc;rw[if_pos hc,Hs.or,Hs.or] at hh;have h1:=h.snd a i ha hi v hv hh.1.1;have h2:=hs v hv hh.1.2;have h3:=h.snd j b hj hb' v hv hh.2;omega
  ·rename_i hc;rw[if_neg hc] at hh;exact h.snd a b ha hb' v hv hh
theorem zW5{n:Nat}{far:Int}{V:(Nat->Int)->Prop}{H:Nat->(Nat->Int)->Prop}{K:Nat}{T:Tb}(h:V9 n far V H K T){i j:Nat}{m:Int}(hi:i<n)(hj:j<n)(hb:0<=m+T.by_ j i)(f t:Nat)(ht:t<n):
  (f=j\/t=i)->¬T.by_ f i+m+T.by_ j t<T.by_ f t:=by
 have t1:=h.tri j i t hj hi ht;have d1:=h.diag i hi;have d2:=h.diag j hj;rintro(rfl|rfl)
 ·omega
 ·omega
def zC2(f:Nat->Int):Nat->Int
 | 0=>0
 | k+1=>zC2 f k+f k
theorem zC3{f g:Nat->Int}:∀ n,(∀ i,i<n->f i<=g i)->zC2 f n<=zC2 g n
 | 0,_=>Int.le_refl _
 | n+1,h=>by have h1:=zC3 n (fun i hi=>h i (by omega));have h2:=h n (by omega);simp only[zC2];omega
theorem qb2{f g:Nat->Int}:∀ n,(∀ i,i<n->f i<=g i)->(∃ i,i<n/\f i<g i)->zC2 f n<zC2 g n
 | 0,_,h=>by obtain⟨i,hi,_⟩:=h;omega
 | n+1,h,hx=>by
  obtain⟨i,hi,hlt⟩:=hx;have h1:=zC3 n (fun i hi=>h i (by omega));have h2:=h n (by omega);simp only[zC2];by_cases e:i=n
  ·subst e;omega
  ·have h3:=qb2 n (fun i hi=>h i (by omega)) ⟨i,by omega,hlt⟩;omega
def qb3(n:Nat)(T:Tb):Int:=zC2 (fun i=>zC2 (fun j=>T.by_ i j) n) n
theorem qA6{n:Nat}{T U:Tb}(h:TLe n T U):qb3 n T<=qb3 n U:=zC3 n (fun i hi=>zC3 n (fun j hj=>h i j hi hj))
theorem jh9{n:Nat}{T U:Tb}(h:TLe n T U){i j:Nat}(hi:i<n)(hj:j<n)(hlt:T.by_ i j<U.by_ i j):qb3 n T<qb3 n U :=
 qb2 n (fun i hi=>zC3 n (fun j hj=>h i j hi hj)) ⟨i,hi,qb2 n (fun j hj=>h i j hi hj) ⟨j,hj,hlt⟩⟩
theorem qb4{f:Nat->Int}{b:Int}:∀ n,(∀ i,i<n->b<=f i)->b*(n:Int)<=zC2 f n
 | 0,_=>by simp[zC2]
 | n+1,h=>by
  have h1:=qb4 n (fun i hi=>h i (by omega));have h2:=h n (by omega);simp only[zC2];have h3:b*((n+1:Nat):Int)=b*(n:Int)+b:=by rw[show((n+1:Nat):Int)=(n:Int)+1 from rfl,Int.mul_add,Int.mul_one]
  omega
structure TPost(n:Nat)(far:Int)(V:(Nat->Int)->Prop)(H:Nat->(Nat->Int)->Prop)(K:Nat)(X Y:W9)(ok:Bool):Prop where
 inv:ok=true->V9 n far V H K Y.t
 le:TLe n Y.t X.t
 news:Y.news=false->X.news=false/\Y.t=X.t
 bad:ok=false->J8 K Y.wrong/\∀ v,V v->¬Hs H Y.wrong v
 dec:Y.news=true->X.news=true\/qb3 n Y.t<qb3 n X.t
theorem TPost.trans{n:Nat}{far:Int}{V:(Nat->Int)->Prop}{H:Nat->(Nat->Int)->Prop}{K:Nat}{X Y Z:W9}{a b:Bool}(h1:TPost n far V H K X Y a)(h2:TPost n far V H K Y Z b):TPost n far V H K X Z b :=
 ⟨h2.inv,h2.le.trans h1.le,fun e=>by obtain⟨e1,e2⟩:=h2.news e;obtain⟨e3,e4⟩:=h1.news e1;exact⟨e3,e2.trans e4⟩,h2.bad,fun e=>by
  have l1:=qA6 h1.le;have l2:=qA6 h2.le;rcases h2.dec e with d|d
  ·rcases h1.dec d with d|d
   ·exact .inl d
   ·exact .inr (by omega)
  ·exact .inr (by omega)⟩
theorem TPost.refl{n:Nat}{far:Int}{V:(Nat->Int)->Prop}{H:Nat->(Nat->Int)->Prop}{K:Nat}{X:W9}(h:V9 n far V H K X.t):TPost n far V H K X X true :=
 ⟨fun _=>h,TLe.refl _ _,fun e=>⟨e,rfl⟩,fun e=>by simp at e,fun e=>.inl e⟩
def W9.limit(n:Nat)(X:W9)(i j:Nat)(m:Int)(mw:M3):W9 × Bool :=
 if m+X.t.by_ j i<0 then(⟨X.t,X.news,mw.or (X.t.why j i)⟩,false)
 else if X.t.by_ i j<=m then(X,true)
 else(⟨X.t.lim n i j m mw,true,X.wrong⟩,true)
theorem qu6{n:Nat}{far:Int}{V:(Nat->Int)->Prop}{H:Nat->(Nat->Int)->Prop}{K:Nat}{X:W9}(h:V9 n far V H K X.t){i j:Nat}{m:Int}{mw:M3}(hi:i<n)(hj:j<n)(hmk:J8 K mw)(hs:∀ v,V v->Hs H mw v->v i-v j<=m):
  TPost n far V H K X (X.limit n i j m mw).1 (X.limit n i j m mw).2/\((X.limit n i j m mw).2=true->(X.limit n i j m mw).1.t.by_ i j<=m):=by
 unfold W9.limit;by_cases h1:m+X.t.by_ j i<0
 ·rw[if_pos h1];refine⟨⟨fun e=>by simp at e,TLe.refl _ _,fun e=>⟨e,rfl⟩,fun _=>⟨hmk.or (h.mks j i hj hi),fun v hv hh=>?_⟩,fun e=>.inl e⟩,fun e=>by simp at e⟩;rw[Hs.or] at hh;have a1:=hs v hv hh.1;have a2:=h.snd j i hj hi v hv hh.2;omega
 ·rw[if_neg h1];by_cases h2:X.t.by_ i j<=m
  ·rw[if_pos h2];exact⟨TPost.refl h,fun _=>h2⟩
  ·rw[if_neg h2];have l3:=qA5 (T:=X.t) (i:=i) (j:=j) (m:=m) (mw:=mw) hi hj;have d1:=h.diag i hi;have d2:=h.diag j hj;exact⟨⟨fun _=>jh8 h hi hj (by omega) hmk hs,fun a b _ _=>zP6 a b,fun e=>by simp at e,fun e=>by simp at e,fun _=>.inr (jh9 (fun a b _ _=>zP6 a b) hi hj (by show(X.t.lim n i j m mw).by_ i j<X.t.by_ i j;omega))⟩,fun _=>(by show(X.t.lim n i j m mw).by_ i j<=m;omega)⟩
end Ar
namespace Ar
theorem zo8(u m:Nat){b c:Nat}(hb:b<256)(hc:c<256):(256*u+b) &&& (256*m+c)=256*(u &&& m)+(b &&& c):=by
 have hbc:b &&& c<256:=Nat.lt_of_le_of_lt Nat.and_le_left hb;apply Nat.eq_of_testBit_eq;intro i;have e1:∀ {x y:Nat},y<256->(256*x+y).testBit i=if i<8 then y.testBit i else x.testBit (i-8):=by intro x y hy;have:=Nat.testBit_two_pow_mul_add x (i:=8) (b:=y) hy i;exact this
 rw[Nat.testBit_and,e1 hb,e1 hc,e1 hbc];split<;>simp
def s1(m x:Nat):Nat:=((x/2) &&& m)+(x &&& m)
def s2(m x:Nat):Nat:=((x/4) &&& m)+(x &&& m)
def s3(m x:Nat):Nat:=(x/16+x) &&& m
theorem ji3:∀ a,a<256->∀ r,r<2->((128*r+a/2) &&& 0x55)=((a/2) &&& 0x55):=by decide +kernel
theorem ji4:∀ a,a<256->∀ r,r<4->((64*r+a/4) &&& 0x33)=((a/4) &&& 0x33):=by decide +kernel
theorem ji5:∀ a,a<69->∀ r,r<5->((16*r+a/16+a) &&& 0x0f)=((a/16+a) &&& 0x0f):=by decide +kernel
theorem zl5(m q:Nat){a:Nat}(ha:a<256):s1 (256*m+0x55) (256*q+a)=256*s1 m q+s1 0x55 a:=by
 unfold s1;have e:(256*q+a)/2=256*(q/2)+(128*(q%2)+a/2):=by omega
 rw[e,zo8 _ _ (by omega) (by omega),zo8 _ _ ha (by omega),ji3 a ha (q%2) (by omega)];omega
theorem zl6(m q:Nat){a:Nat}(ha:a<256):s2 (256*m+0x33) (256*q+a)=256*s2 m q+s2 0x33 a:=by
 unfold s2;have e:(256*q+a)/4=256*(q/4)+(64*(q%4)+a/4):=by omega
 rw[e,zo8 _ _ (by omega) (by omega),zo8 _ _ ha (by omega),ji4 a ha (q%4) (by omega)];omega
theorem zl7(m q:Nat){a:Nat}(ha:a<69)(hq:q%16<5):s3 (256*m+0x0f) (256*q+a)=256*s3 m q+s3 0x0f a:=by
 unfold s3;have e:(256*q+a)/16+(256*q+a)=256*(q/16+q)+(16*(q%16)+a/16+a):=by omega
 rw[e,zo8 _ _ (by omega) (by omega),ji5 a ha (q%16) hq]
theorem ql4:∀ a,a<256->s1 0x55 a<256:=by decide +kernel
theorem ql5:∀ a,a<256->s2 0x33 (s1 0x55 a)<69/\s2 0x33 (s1 0x55 a)%16<5:=by decide +kernel
theorem ql6:∀ a,a<256->s3 0x0f (s2 0x33 (s1 0x55 a))<=8/\(s3 0x0f (s2 0x33 (s1 0x55 a))=0↔a=0):=by decide +kernel
def pc3(x:Nat):Nat:=s3 0x0F0F0F0F0F0F0F0F (s2 0x3333333333333333 (s1 0x5555555555555555 x))
def pcb(a:Nat):Nat:=s3 0x0f (s2 0x33 (s1 0x55 a))
theorem ji6(m:Nat):s1 m 0=0:=by simp[s1]
theorem ji7(m:Nat):s2 m 0=0:=by simp[s2]
theorem ji8(m:Nat):s3 m 0=0:=by simp[s3]
theorem qK9{a0 a1 a2 a3 a4 a5 a6 a7:Nat}(h0:a0<256)(h1:a1<256)(h2:a2<256)(h3:a3<256)(h4:a4<256)(h5:a5<256)(h6:a6<256)(h7:a7<256):
  pc3 (256*(256*(256*(256*(256*(256*(256*(256*0+a7)+a6)+a5)+a4)+a3)+a2)+a1)+a0)=256*(256*(256*(256*(256*(256*(256*(256*0+pcb a7)+pcb a6)+pcb a5)+pcb a4)+pcb a3)+pcb a2)+pcb a1)+pcb a0:=by
 have k1:(0x5555555555555555:Nat)=256*(256*(256*(256*(256*(256*(256*(256*0+0x55)+0x55)+0x55)+0x55)+0x55)+0x55)+0x55)+0x55:=by decide +kernel
 have k2:(0x3333333333333333:Nat)=256*(256*(256*(256*(256*(256*(256*(256*0+0x33)+0x33)+0x33)+0x33)+0x33)+0x33)+0x33)+0x33:=by decide +kernel
 have k3:(0x0F0F0F0F0F0F0F0F:Nat)=256*(256*(256*(256*(256*(256*(256*(256*0+0x0f)+0x0f)+0x0f)+0x0f)+0x0f)+0x0f)+0x0f)+0x0f:=by decide +kernel
 unfold pc3;rw[k1,k2,k3];rw[zl5 _ _ h0,zl5 _ _ h1,zl5 _ _ h2,zl5 _ _ h3,zl5 _ _ h4,zl5 _ _ h5,zl5 _ _ h6,zl5 _ _ h7,ji6];rw[zl6 _ _ (ql4 _ h0),zl6 _ _ (ql4 _ h1),zl6 _ _ (ql4 _ h2),zl6 _ _ (ql4 _ h3),zl6 _ _ (ql4 _ h4),zl6 _ _ (ql4 _ h5),zl6 _ _ (ql4 _ h6),zl6 _ _ (ql4 _ h7),ji7];have b0:=ql5 _ h0;have b1:=ql5 _ h1;have b2:=ql5 _ h2;have b3:=ql5 _ h3;have b4:=ql5 _ h4;have b5:=ql5 _ h5;have b6:=ql5 _ h6;have b7:=ql5 _ h7;rw[zl7 _ _ b0.1 (by omega),zl7 _ _ b1.1 (by omega),zl7 _ _ b2.1 (by omega),zl7 _ _ b3.1 (by omega),zl7 _ _ b4.1 (by omega),zl7 _ _ b5.1 (by omega),zl7 _ _ b6.1 (by omega),zl7 _ _ b7.1 (by omega),ji8]
 rfl
def zW8(x:Nat):Nat:=x+x/256+(x+x/256)/65536+(x+x/256+(x+x/256)/65536)/4294967296
theorem jq8{x:Nat}(hx:x<18446744073709551616):∃ a0 a1 a2 a3 a4 a5 a6 a7:Nat,a0<256/\a1<256/\a2<256/\a3<256/\a4<256/\a5<256/\a6<256/\a7<256/\x=256*(256*(256*(256*(256*(256*(256*(256*0+a7)+a6)+a5)+a4)+a3)+a2)+a1)+a0:=by
 obtain⟨y1,h1⟩:∃ y,y=x/256:=⟨_,rfl⟩;obtain⟨y2,h2⟩:∃ y,y=y1/256:=⟨_,rfl⟩;obtain⟨y3,h3⟩:∃ y,y=y2/256:=⟨_,rfl⟩;obtain⟨y4,h4⟩:∃ y,y=y3/256:=⟨_,rfl⟩;obtain⟨y5,h5⟩:∃ y,y=y4/256:=⟨_,rfl⟩;obtain⟨y6,h6⟩:∃ y,y=y5/256:=⟨_,rfl⟩;obtain⟨y7,h7⟩:∃ y,y=y6/256:=⟨_,rfl⟩;have l7:y7<256:=by omega
 refine⟨x%256,y1%256,y2%256,y3%256,y4%256,y5%256,y6%256,y7,by omega,by omega,by omega,by omega,by omega,by omega,by omega,l7,?_⟩;have e6:256*(256*0+y7)+y6%256=y6:=by omega
 rw[e6];have e5:256*y6+y5%256=y5:=by omega
 rw[e5];have e4:256*y5+y4%256=y4:=by omega
 rw[e4];have e3:256*y4+y3%256=y3:=by omega
 rw[e3];have e2:256*y3+y2%256=y2:=by omega
 rw[e2];have e1:256*y2+y1%256=y1:=by omega
 rw[e1];omega
theorem ji9{y y1 y2 y3 y4 y5 y6 y7 c0 c1 c2 c3 c4 c5 c6 c7:Nat}(b0:c0<=8)(b1:c1<=8)(b2:c2<=8)(b3:c3<=8)(b4:c4<=8)(b5:c5<=8)(b6:c6<=8)(b7:c7<=8)(hy7:y7=c7)(hy6:y6=256*y7+c6)(hy5:y5=256*y6+c5)(hy4:y4=256*y5+c4)(hy3:y3=256*y4+c3)(hy2:y2=256*y3+c2)(hy1:y1=256*y2+c1)(hy:y=256*y1+c0):
  zW8 y<18446744073709551616/\zW8 y%128=c0+c1+c2+c3+c4+c5+c6+c7:=by
 have e1:y/256=y1:=by clear hy7 hy6 hy5 hy4 hy3 hy2 hy1;omega
 unfold zW8;rw[e1];have e2:(y+y1)/65536=y2+y3:=by
  have:y+y1=65536*(y2+y3)+256*(c1+c2)+(c0+c1):=by clear hy7 hy6 hy5 hy4;omega
  rw[this];clear hy7 hy6 hy5 hy4 hy3 hy2 hy1 hy this e1;omega
 rw[e2];have e3:(y+y1+(y2+y3))/4294967296=y4+y5+(y6+y7):=by
  have:y+y1+(y2+y3)=4294967296*(y4+y5+(y6+y7))+16777216*(c3+c4+c5+c6)+65536*(c2+c3+c4+c5)+256*(c1+c2+c3+c4)+(c0+c1+c2+c3):=by clear e1 e2;subst hy hy1 hy2 hy3;clear hy7;omega
  rw[this];clear hy7 hy6 hy5 hy4 hy3 hy2 hy1 hy this e1 e2;omega
 rw[e3];clear e1 e2 e3;constructor
 ·have l6:y6<=2056:=by clear hy5 hy4 hy3 hy2 hy1 hy;omega
  have l5:y5<=526344:=by clear hy6 hy7 hy4 hy3 hy2 hy1 hy;omega
  have l4:y4<=134744072:=by clear hy6 hy7 hy5 hy3 hy2 hy1 hy;omega
  have l3:y3<=34494482440:=by clear hy6 hy7 hy5 hy4 hy2 hy1 hy;omega
  have l2:y2<=8830587504648:=by clear hy6 hy7 hy5 hy4 hy3 hy1 hy;omega
  have l1:y1<=2260630401189896:=by clear hy6 hy7 hy5 hy4 hy3 hy2 hy;omega
  have l0:y<=578721382704613384:=by clear hy6 hy7 hy5 hy4 hy3 hy2 hy1;omega
  clear hy6 hy5 hy4 hy3 hy2 hy1 hy;omega
 ·have:y+y1+(y2+y3)+(y4+y5+(y6+y7))=256*(y1+y2+(y3+y4)+(y5+y6+y7))+(c0+c1+c2+c3+c4+c5+c6+c7):=by
   omega
  rw[this];clear hy6 hy7 hy5 hy4 hy3 hy2 hy1 hy this;omega
theorem jj0{x:Nat}(hx:x<18446744073709551616):zW8 (pc3 x)<18446744073709551616/\(zW8 (pc3 x)%128=0↔x=0):=by
 obtain⟨a0,a1,a2,a3,a4,a5,a6,a7,h0,h1,h2,h3,h4,h5,h6,h7,e⟩:=jq8 hx;have b0:=ql6 _ h0;have b1:=ql6 _ h1;have b2:=ql6 _ h2;have b3:=ql6 _ h3;have b4:=ql6 _ h4;have b5:=ql6 _ h5;have b6:=ql6 _ h6;have b7:=ql6 _ h7;have hE:=ji9 b0.1 b1.1 b2.1 b3.1 b4.1 b5.1 b6.1 b7.1 rfl rfl rfl rfl rfl rfl rfl rfl;have hp:=qK9 h0 h1 h2 h3 h4 h5 h6 h7;rw[<- e] at hp;simp only[Nat.mul_zero,Nat.zero_add] at hp;unfold pcb at hp;rw[<- hp] at hE;refine⟨hE.1,?_⟩;rw[hE.2];have hx0:x=0↔a0=0/\a1=0/\a2=0/\a3=0/\a4=0/\a5=0/\a6=0/\a7=0:=by
  constructor
  ·intro hx;rw[hx] at e;clear hE hp b0 b1 b2 b3 b4 b5 b6 b7;omega
  ·rintro⟨rfl,rfl,rfl,rfl,rfl,rfl,rfl,rfl⟩;exact e
 rw[hx0,<- b0.2,<- b1.2,<- b2.2,<- b3.2,<- b4.2,<- b5.2,<- b6.2,<- b7.2];clear hE hp hx0 e b0 b1 b2 b3 b4 b5 b6 b7;omega
end Ar
namespace Ar
def za1(f:Nat->Nat):Nat->Nat
 | 0=>0
 | n+1=>za1 f n+f n
theorem qV7{f g:Nat->Nat}:∀ {n:Nat},(∀ i,i<n->f i<=g i)->za1 f n<=za1 g n
 | 0,_=>Nat.le_refl _
 | n+1,h=>by have:=qV7 (n:=n) (fun i hi=>h i (by omega));have:=h n (by omega);simp only[za1];omega
end Ar
end Go.Proofs.YtegbdaffhpiacaaGreatDoor
