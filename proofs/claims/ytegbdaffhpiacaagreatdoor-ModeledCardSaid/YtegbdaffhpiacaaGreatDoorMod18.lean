/- A part of the proof. -/
import Derived.Test.YtegbdaffhpiacaaGreatDoorMod17
set_option maxRecDepth 100000
set_option maxHeartbeats 1000000
namespace Go.Proofs.YtegbdaffhpiacaaGreatDoor
open Tryz hiding parts
open Go.RowKit Go.Maps Ar
def qz3:Nd->Int
 | .mk _ _ v _=>v
def bnd(ps:List Nd):Int:=match ps[2]? with
 | some nd=>qz3 nd
 | none=>0
noncomputable def keyA(T:List Nd):Nd->Y2
 | .mk _ w _ ps=>⟨w,ix T (ps.take 2) 0,ix T (ps.take 2) 1,bnd ps⟩
def zq7(x:Nd):List Nd:=(parts x).take 2
theorem qR9{T T':List Nd}(h:T <+:T'){x:Nd}(hp:∀ p∈zq7 x,p∈T):keyA T' x=keyA T x:=by
 cases x with
 | mk k w v ps=>have hp':∀ p∈ps.take 2,p∈T:=hp;simp only[keyA,qR2 h hp']
theorem qS0{l:List UInt8}(h:AtW l):l.length<=2:=by rcases h with rfl|rfl|rfl|rfl<;>decide
theorem zp4{x:Nd}(h:zs5 x):∃ w a b r,x=.mk 2 w 0 (a::b::r)/\AtW w.toList/\Y5 a/\Y5 b/\(r=[]\/∃ v,r=[.mk 5 ByteArray.empty v []] /\ -1000<=v/\v<=1000):=by
 cases h with
 | @two w a b hw ha hb=>
  refine⟨w,a,b,[],rfl,?_,ha,hb,.inl rfl⟩;rcases hw with h|h|h
  ·exact .inl h
  ·exact .inr (.inl h)
  ·exact .inr (.inr (.inl h))
 | @le w a b v hw ha hb h1 h2=>exact⟨w,a,b,_,rfl,.inr (.inr (.inr hw)),ha,hb,.inr ⟨v,rfl,h1,h2⟩⟩
theorem jd5{T:List Nd}{x:Nd}(hx:zs5 x)(hp:∀ p∈zq7 x,p∈T)(hl:T.length<=10000000):(keyA T x).Ok:=by
 obtain⟨w,a,b,r,rfl,hw,_,_,hr⟩:=zp4 hx;have hp':∀ p∈(a::b::r).take 2,p∈T:=hp;have hsz:=qS0 hw;rw[Z4] at hsz;refine⟨by show _<=_;simp only[keyA];omega,qi2 hp' hl 0,qi2 hp' hl 1,?_⟩;rcases hr with rfl|⟨v,rfl,h1,h2⟩
 ·exact sm0
 ·exact⟨by show _<=_;simp[keyA,bnd,qz3];omega,by show _<=_;simp[keyA,bnd,qz3];omega⟩
theorem qS1{T:List Nd}{x y:Nd}(hx:zs5 x)(hy:zs5 y)(hpx:∀ p∈zq7 x,p∈T)(hpy:∀ p∈zq7 y,p∈T)(h:keyA T x=keyA T y):x=y:=by
 have ex:∀ (w:ByteArray) (a b:Nd) (r:List Nd),(∀ p∈zq7 (.mk 2 w 0 (a::b::r)),p∈T)->a∈T/\b∈T:=by intro w a b r hp;exact⟨hp a (by simp[zq7,parts]),hp b (by simp[zq7,parts])⟩
 have ek:∀ (w:ByteArray) (a b:Nd) (r:List Nd),keyA T (.mk 2 w 0 (a::b::r))=⟨w,idx T a,idx T b,bnd (a::b::r)⟩:=by
  intro w a b r
  rfl
 cases hx with
 | @two w a b hw ha hb=>
  obtain⟨m1,m2⟩:=ex _ _ _ _ hpx;cases hy with
  | @two w' a' b' hw' ha' hb'=>obtain⟨m3,m4⟩:=ex _ _ _ _ hpy;rw[ek,ek] at h;simp only[Y2.mk.injEq] at h;obtain⟨rfl,e1,e2,_⟩:=h;rw[zB3 m1 m3 (by omega),zB3 m2 m4 (by omega)]
  | @le w' a' b' v' hw' ha' hb' _ _=>rw[ek,ek] at h;simp only[Y2.mk.injEq] at h;have h1:=h.1;rw[h1] at hw;rw[hw'] at hw;exact absurd hw (by decide)
 | @le w a b v hw ha hb _ _=>
  obtain⟨m1,m2⟩:=ex _ _ _ _ hpx;cases hy with
  | @two w' a' b' hw' ha' hb'=>rw[ek,ek] at h;simp only[Y2.mk.injEq] at h;rw[<- h.1,hw] at hw';exact absurd hw' (by decide)
  | @le w' a' b' v' hw' ha' hb' _ _=>obtain⟨m3,m4⟩:=ex _ _ _ _ hpy;rw[ek,ek] at h;simp only[Y2.mk.injEq] at h;obtain⟨rfl,e1,e2,e3⟩:=h;have e4:v=v':=e3;rw[zB3 m1 m3 (by omega),zB3 m2 m4 (by omega),e4]
noncomputable def keysA(T A:List Nd):List Y2:=A.map (keyA T)
theorem zn6(T A:List Nd):(keysA T A).length=A.length:=by simp[keysA]
def AC(T A:List Nd):Prop:=∀ x∈A,zs5 x/\∀ p∈zq7 x,p∈T
theorem zU8{T T' A:List Nd}(h:T <+:T')(hc:AC T A):keysA T' A=keysA T A:=by unfold keysA;apply List.map_congr_left;intro x hx;exact qR9 h (hc x hx).2
theorem AC.pre{T T' A:List Nd}(h:AC T A)(hp:T <+:T'):AC T' A:=fun x hx=>⟨(h x hx).1,fun p hpp=>hp.subset ((h x hx).2 p hpp)⟩
theorem zU9{T A:List Nd}{x:Nd}(hc:AC T A)(hx:zs5 x)(hp:∀ p∈zq7 x,p∈T):keysA T (putN A x)=putK (keysA T A) (keyA T x):=by
 by_cases hin:x∈A
 ·rw[zp8 hin,zt8 (show keyA T x∈keysA T A from List.mem_map.2 ⟨x,hin,rfl⟩)]
 ·have hno:¬keyA T x∈keysA T A:=by
   intro hm;obtain⟨y,hy,e⟩:=List.mem_map.1 hm;have:=qS1 (hc y hy).1 hx (hc y hy).2 hp e;exact hin (this▸hy)
  rw[zk5 hin,zb6 hno];simp[keysA]
theorem qr9{T A:List Nd}(n m:Nat)(hc:AC (T.take m) (A.take n)):keysA (T.take m) (A.take n)=(keysA T A).take n:=by have h1:=zU8 (List.take_prefix m T) hc;unfold keysA at *;rw[<- List.map_take,h1]
structure PSt(w:World)(sb:Nat)(nv:Value)(xs:PX)(T A:List Nd):Prop where
 ts:TS w sb nv xs T
 ar:zG9 w xs.at_ xs.am (keysA T A)
 ac:AC T A
 nd:A.Nodup
 s3:∀ k,xs.at_.ownBlock=some k->¬k=sb
 s4:∀ k,U5 xs.am=some k->¬k=sb
 ap:∀ k,TF sb xs k->¬xs.at_.ownBlock=some k/\¬U5 xs.am=some k
def PF(sb:Nat)(xs:PX)(k:Nat):Prop:=TF sb xs k\/xs.at_.ownBlock=some k\/U5 xs.am=some k
theorem PSt.lt{w:World}{sb:Nat}{nv:Value}{xs:PX}{T A:List Nd}(h:PSt w sb nv xs T A):∀ k,PF sb xs k->k<w.heap.size:=by
 rintro k (e|e|e)
 ·exact h.ts.lt k e
 ·exact(h.ar.own.lt k e).2
 ·rcases h.ar.map with⟨e2,_⟩|⟨mb,D,e2,ho,_⟩
  ·rw[e2] at e;exact absurd e (by simp[U5])
  ·rw[e2] at e;simp[U5] at e;subst e;exact ho.lt
theorem PSt.ext{S:Nat->Prop}{w w':World}{sb:Nat}{nv:Value}{xs:PX}{T A:List Nd}(h:PSt w sb nv xs T A)(hx:q9 S w w')(hS:∀ k,PF sb xs k->¬S k):PSt w' sb nv xs T A :=
 ⟨h.ts.ext hx (fun k hk=>hS k (.inl hk)),h.ar.ext hx (fun k hk=>hS k (.inr (.inl hk))) (fun k hk=>hS k (.inr (.inr hk))),h.ac,h.nd,h.s3,h.s4,h.ap⟩
def zj8(w:World)(sb:Nat)(nv:Value)(xs:PX)(T' A':List Nd)(w':World):Prop :=
 ∃ ts' tm' at' am',PSt w' sb nv { xs with ts:=ts',tm:=tm',at_:=at',am:=am' } T' A'/\q9 (PF sb xs) w w'/\(∀ k,PF sb { xs with ts:=ts',tm:=tm',at_:=at',am:=am' } k->PF sb xs k\/w.heap.size<=k)
theorem qG9{w w':World}{sb B:Nat}{nv:Value}{xs:PX}{T T' A:List Nd}{ts' tm':Value}(h:PSt w sb nv xs T A)(hB:w.heap.size<=B)(hpre:T <+:T')(h2:TS w' sb nv { xs with ts:=ts',tm:=tm' } T')(hE:q9 (TF sb xs) w w')(hF:∀ k,TF sb { xs with ts:=ts',tm:=tm' } k->TF sb xs k\/B<=k):
  PSt w' sb nv { xs with ts:=ts',tm:=tm' } T' A:=by
 refine⟨h2,?_,h.ac.pre hpre,h.nd,h.s3,h.s4,fun k hk=>?_⟩
 ·rw[zU8 hpre h.ac];exact h.ar.ext hE (fun g hg hf=>(h.ap g hf).1 hg) (fun g hg hf=>(h.ap g hf).2 hg)
 ·rcases hF k hk with e|e
  ·exact h.ap k e
  ·exact⟨fun e2=>by have:=h.lt k (.inr (.inl e2));omega,fun e2=>by have:=h.lt k (.inr (.inr e2));omega⟩
theorem qs0{T A:List Nd}{x:Nd}(hc:AC T A)(hx:zs5 x)(hp:∀ p∈zq7 x,p∈T)(hnd:(keysA T (putN A x)).Nodup){i:Nat}(h:(putK (keysA T A) (keyA T x))[i]?=some (keyA T x)):i=idx (putN A x) x:=by
 rw[<- zU9 hc hx hp] at h;have hm:x∈putN A x:=zh3.2 (.inr rfl);have h1:(keysA T (putN A x))[idx (putN A x) x]?=some (keyA T x):=by
  unfold keysA;rw[List.getElem?_map,zc1 hm]
  rfl
 obtain⟨hi,e1⟩:=List.getElem?_eq_some_iff.1 h;obtain⟨hj,e2⟩:=List.getElem?_eq_some_iff.1 h1;have hpw:=List.pairwise_iff_getElem.1 hnd;rcases Nat.lt_trichotomy i (idx (putN A x) x) with hlt|heq|hgt
 ·exact absurd (e1.trans e2.symm) (hpw _ _ hi hj hlt)
 ·exact heq
 ·exact absurd (e2.trans e1.symm) (hpw _ _ hj hi hgt)
theorem qH0{w:World}{sb:Nat}{nv:Value}{xs:PX}{T A:List Nd}{x:Nd}(h:PSt w sb nv xs T A)(hx:zs5 x)(hp:∀ p∈zq7 x,p∈T)(hl:T.length<=10000000)(hl2:A.length<=10000000):
  Calls prog 149 #[.pointer (some ⟨sb,3,none⟩),(keyA T x).val] w fun e w'=>e=.returned (.int .i64 (idx (putN A x) x:Nat))/\zj8 w sb nv xs T (putN A x) w':=by
 refine(qr3 (keyA T x) h.ts.blk h.ar (jd5 hx hp hl) h.s3 h.s4 (by rw[zn6];exact hl2)).mono ?_;rintro e w' ⟨i,tv',mv',rfl,hi,hb,hr,hE,h1,h2⟩;rw[<- zU9 h.ac hx hp] at hr;have hpl:=qs0 h.ac hx hp hr.nd hi;subst hpl;have hsb:=z8 h.ts.blk;have hlt:=h.lt;refine⟨rfl,xs.ts,xs.tm,tv',mv',⟨⟨hb,h.ts.row.ext hE ?_ ?_,h.ts.cl,h.ts.nd,h.ts.s1,h.ts.s2⟩,hr,?_,zk6 h.nd,?_,?_,?_⟩,?_,?_⟩
 ·rintro g hg (e|e|e)
  ·exact h.ts.s1 g hg e
  ·exact(h.ap g (.inr (.inl hg))).1 e
  ·exact(h.ap g (.inr (.inl hg))).2 e
 ·rintro g hg (e|e|e)
  ·exact h.ts.s2 g hg e
  ·exact(h.ap g (.inr (.inr hg))).1 e
  ·exact(h.ap g (.inr (.inr hg))).2 e
 ·intro y hy;rcases zh3.1 hy with hy|rfl
  ·exact h.ac y hy
  ·exact⟨hx,hp⟩
 ·intro k hk e;rcases h1 k hk with h'|h'
  ·exact h.s3 k h' e
  ·omega
 ·intro k hk e;rcases h2 k hk with h'|h'
  ·exact h.s4 k h' e
  ·omega
 ·intro k hk;have hk':TF sb xs k:=hk;have hkl:=hlt k (.inl hk');refine⟨fun e=>?_,fun e=>?_⟩
  ·rcases h1 k e with h'|h'
   ·exact(h.ap k hk').1 h'
   ·omega
  ·rcases h2 k e with h'|h'
   ·exact(h.ap k hk').2 h'
   ·omega
 ·exact hE.mono (fun k _ e=>e.elim (fun e=>.inl (.inl e)) (fun e=>.inr e))
 ·rintro k (e|e|e)
  ·exact .inl (.inl e)
  ·exact(h1 k e).imp (fun h=>.inr (.inl h)) id
  ·exact(h2 k e).imp (fun h=>.inr (.inr h)) id
structure CK where
 nm:ByteArray
 ar:Int
 a0:Int
 a1:Int
 a2:Int
def CK.cells(k:CK):List Value:=[.string k.nm,.int .i64 k.ar,.int .i64 k.a0,.int .i64 k.a1,.int .i64 k.a2]
def CK.val(k:CK):Value:=.agg #[.string k.nm,.int .i64 k.ar,.int .i64 k.a0,.int .i64 k.a1,.int .i64 k.a2]
structure CK.Ok(k:CK):Prop where
 nm:k.nm.size<=1000
 ar:Sm k.ar
 a0:Sm k.a0
 a1:Sm k.a1
 a2:Sm k.a2
theorem jl4:prog.cellsOf 147=5:=by kernel_rfl
theorem jj9(d:Nat){k:CK}(h:k.Ok):∃ ls,prog.keyLits (d+3) 147 k.cells=some ls:=by unfold Program.keyLits;simp[CK.cells,underlying147,jl4,cFn,cA3,qy8 d h.nm h.ar,qy9 d h.a0 h.a1 h.a2]
theorem jr4{k:CK}(h:k.Ok):∃ l,keyOf prog 147 k.val=some l:=by
 obtain⟨d,hd⟩:=zx6;obtain⟨ls,hl⟩:=jj9 d h;refine⟨.string (keyBytes ls),?_⟩;have hc:k.val.cells.toList=k.cells:=rfl;have hkt:prog.keyType 147=true:=by kernel_rfl
 have hf:k.val.formed prog 147=true:=by simp[CK.val,Value.formed,underlying147,jl4]
 unfold keyOf;rw[underlying147];simp only[hkt,hf,Bool.and_self,if_true,hc,hd,hl,Option.map_some]
theorem qd1:Keyed prog 147:=Keyed.of_law (deep_law_laid (by kernel_rfl) (m:=4) (by omega) (of_decide_eq_true (by kernel_rfl)) (by kernel_rfl) (by kernel_rfl))
noncomputable def klC(k:CK):Lit:=(keyOf prog 147 k.val).getD (.bool false)
theorem qd2{k:CK}(h:k.Ok):keyOf prog 147 k.val=some (klC k):=by obtain⟨l,hl⟩:=jr4 h;rw[klC,hl];rfl
theorem qB8{x y:CK}(hx:x.Ok)(hy:y.Ok)(h:klC x=klC y):x=y:=by have h2:=qd2 hy;rw[<- h] at h2;have e:=qd1.inj (qd2 hx) h2;cases x;cases y;simp[CK.val] at e;simp[e]
def zR1(x:Z3)(u:Nat->Int)(j:Nat):CK:=⟨x.nm,x.ar,if 0<j then u x.a0.toNat else 0,if 1<j then u x.a1.toNat else 0,if 2<j then u x.a2.toNat else 0⟩
def zh5(x:Z3)(u:Nat->Int):CK:=zR1 x u x.ar.toNat
structure MdF(TK:List Z3)(u:Nat->Int)(j:Nat)(D:DataW Unit):Prop where
 yes:∀ (i:Nat) (x:Z3),i<j->TK[i]?=some x->¬x.nm=⟨#[]⟩->(∀ z,D.atKey (klC (zh5 x u)) z=.lit (.int .i64 (u i)))/\Maps.has D (klC (zh5 x u))=true
 no:∀ k:CK,k.Ok->(∀ (i:Nat) (x:Z3),i<j->TK[i]?=some x->¬x.nm=⟨#[]⟩->¬zh5 x u=k)->Maps.has D (klC k)=false
structure jr5(TK:List Z3)(u:Nat->Int):Prop where
 ok:∀ x∈TK,(zh5 x u).Ok
 same:∀ (i j:Nat) (x y:Z3),TK[i]?=some x->TK[j]?=some y->¬x.nm=⟨#[]⟩->¬y.nm=⟨#[]⟩->zh5 x u=zh5 y u->u i=u j
 ar:∀ x∈TK,0<=x.ar/\x.ar<=3
 a0:∀ x∈TK,0<x.ar->0<=x.a0/\x.a0<TK.length
 a1:∀ x∈TK,1<x.ar->0<=x.a1/\x.a1<TK.length
 a2:∀ x∈TK,2<x.ar->0<=x.a2/\x.a2<TK.length
 sm:∀ i,i<TK.length->Sm (u i)
section
variable{TK:List Z3}{u:Nat->Int}
theorem jk0:MdF TK u 0 (.map []):=⟨fun i _ h=>absurd h (Nat.not_lt_zero i),fun _ _ _=>rfl⟩
theorem MdF.skip{j:Nat}{x:Z3}{D:DataW Unit}(h:MdF TK u j D)(hx:TK[j]?=some x)(hn:x.nm=⟨#[]⟩):MdF TK u (j+1) D:=by
 refine⟨fun i y hi hy hyn=>?_,fun k hk hno=>h.no k hk (fun i y hi=>hno i y (by omega))⟩;by_cases e:i=j
 ·subst e;rw[hx] at hy;obtain rfl:x=y:=by simpa using hy
  exact absurd hn hyn
 ·exact h.yes i y (by omega) hy hyn
theorem MdF.put{j:Nat}{x:Z3}{D:DataW Unit}(h:MdF TK u j D)(hD:Maps.Tidy D)(ho:jr5 TK u)(hx:TK[j]?=some x)(hn:¬x.nm=⟨#[]⟩)(hk:WideAt.IsKeyLit (klC (zh5 x u))):MdF TK u (j+1) (D.put (klC (zh5 x u)) (.lit (.int .i64 (u j)))):=by
 have hxo:=ho.ok x (List.mem_of_getElem? hx);refine⟨fun i y hi hy hyn=>?_,fun k hk' hno=>?_⟩
 ·by_cases e:zh5 y u=zh5 x u
  ·have hu:=ho.same i j y x hy hx hyn hn e;rw[e,hu]
   generalize klC (zh5 x u)=q at hk ⊢
   exact⟨fun z=>atKey_put_same hD.isMap hk _ z,has_put_same hD.isMap hk _⟩
  ·have hij:¬i=j:=by
    intro e2;subst e2;rw[hx] at hy;obtain rfl:x=y:=by simpa using hy
    exact e rfl
   have hne:klC (zh5 y u)≠klC (zh5 x u):=fun e2=>e (qB8 (ho.ok y (List.mem_of_getElem? hy)) hxo e2)
   obtain⟨h1,h2⟩:=h.yes i y (by omega) hy hyn
   generalize klC (zh5 y u)=p at h1 h2 hne ⊢
   generalize klC (zh5 x u)=q at hne ⊢
   exact⟨fun z=>by rw[atKey_put_other hne];exact h1 z,by rw[has_put_other hne];exact h2⟩
 ·have hne:klC k≠klC (zh5 x u):=fun e2=>hno j x (by omega) hx hn (qB8 hk' hxo e2).symm
  have h3:=h.no k hk' (fun i y hi=>hno i y (by omega))
  generalize klC k=p at hne h3 ⊢
  generalize klC (zh5 x u)=q at hne ⊢
  rw[has_put_other hne];exact h3
end
noncomputable def acs(w:ByteArray)(T es:List Nd)(j:Nat)(bd:Int):Array Value:=#[.string w,.int .i64 (if 0<j then ix T es 0 else 0),.int .i64 (if 1<j then ix T es 1 else 0),.int .i64 bd]
theorem jb6{w:ByteArray}{T es:List Nd}{j:Nat}{bd:Int}(hj:j<2):(acs w T es j bd).setIfInBounds (1+j) (.int .i64 (ix T es j))=acs w T es (j+1) bd:=by
 match j,hj with
 | 0,_=>rfl
 | 1,_=>rfl
theorem jo2{w:ByteArray}{T es:List Nd}{j:Nat}{bd bd':Int}:(acs w T es j bd).setIfInBounds 3 (.int .i64 bd')=acs w T es j bd':=rfl
theorem qQ4{w:ByteArray}{T es:List Nd}{bd:Int}:acs w T es 2 bd=#[.string w,.int .i64 (ix T es 0),.int .i64 (ix T es 1),.int .i64 bd]:=rfl
theorem qg9{w:ByteArray}{T es:List Nd}{j q:Nat}{bd:Int}(hq:q<4):∃ u,(acs w T es j bd)[q]?=some u:=⟨_,Array.getElem?_eq_getElem (by simpa[acs] using hq)⟩
structure AW2(w:World)(sb nb ab:Nat)(nv:Value)(xs:PX)(T:List Nd)(word:ByteArray)(pv:Value)(es:List Nd)(j:Nat)(wr:World):Prop where
 ext:q9 (TF sb xs) w wr
 nbk:wr.heap[nb]?=some (.cells #[.int .i64 2,.string word,.int .i64 0,pv] 115)
 abk:wr.heap[ab]?=some (.cells (acs word (addTs T es) es j 0) 153)
 ts:∃ ts' tm',TS wr sb nv { xs with ts:=ts',tm:=tm' } (addTs T (es.take j))/\(∀ q,TF sb { xs with ts:=ts',tm:=tm' } q->TF sb xs q\/w.heap.size+2<=q)
theorem jb7{w wr V w2:World}{sb:Nat}{nv pv:Value}{xs:PX}{T:List Nd}{word:ByteArray}{es:List Nd}{j:Nat}{p:Nd}{ts1 tm1 ts2 tm2:Value}(hes:∀ p∈es,Y5 p)(h:AW2 w sb w.heap.size (w.heap.size+1) nv xs T word pv es j wr)(hlt:∀ q,TF sb xs q->q<w.heap.size)(hl:w.heap.size+2<=wr.heap.size)(hx:q9 (fun _=>False) wr V)
  (hf1:∀ q,TF sb { xs with ts:=ts1,tm:=tm1 } q->TF sb xs q\/w.heap.size+2<=q) (h2:TS w2 sb nv { xs with ts:=ts2,tm:=tm2 } (addT (addTs T (es.take j)) p)) (hE:q9 (TF sb { xs with ts:=ts1,tm:=tm1 }) V w2) (hf2:∀ q,TF sb { xs with ts:=ts2,tm:=tm2 } q->TF sb { xs with ts:=ts1,tm:=tm1 } q\/V.heap.size<=q)
  (hp:es[j]?=some p) (hj:j<2):w2.heap[w.heap.size+1]?=some (.cells (acs word (addTs T es) es j 0) 153)/\AW2 w sb w.heap.size (w.heap.size+1) nv xs T word pv es (j+1) (w2.setCell ⟨w.heap.size+1,1+j,none⟩ (.int .i64 (idx (addT (addTs T (es.take j)) p) p:Nat))):=by
 have hno:∀ q,q<w.heap.size+2->w.heap.size<=q->¬TF sb { xs with ts:=ts1,tm:=tm1 } q:=by
  intro q h1 h2 h3;rcases hf1 q h3 with e|e
  ·have:=hlt q e;omega
  ·omega
 have s1:=hx.size;have kt:w2.heap[w.heap.size+1]?=some (.cells (acs word (addTs T es) es j 0) 153):=(hE.block _ (by omega) (hno _ (by omega) (by omega))).trans ((hx.block _ (by omega) (fun f=>f)).trans h.abk);have kn:w2.heap[w.heap.size]?=some (.cells #[.int .i64 2,.string word,.int .i64 0,pv] 115):=(hE.block _ (by omega) (hno _ (by omega) (Nat.le_refl _))).trans ((hx.block _ (by omega) (fun f=>f)).trans h.nbk);have hxs:q9 (fun q=>q=w.heap.size+1) w2 (w2.setCell ⟨w.heap.size+1,1+j,none⟩ (.int .i64 (idx (addT (addTs T (es.take j)) p) p:Nat))):=(q9.refl (fun q=>q=w.heap.size+1) w2).setCell (p:=⟨w.heap.size+1,1+j,none⟩) (fun _=>rfl) _;have hf:∀ q,TF sb { xs with ts:=ts2,tm:=tm2 } q->TF sb xs q\/w.heap.size+2<=q:=by
  intro q hq;rcases hf2 q hq with e|e
  ·exact hf1 q e
  ·exact .inr (by omega)
 refine⟨kt,⟨?_,?_,?_,ts2,tm2,?_,hf⟩⟩
 ·refine((h.ext.trans' (hx.mono (fun _ _ f=>f.elim)) (fun _ _ e=>e)).trans' hE (fun q hq e=>?_)).trans' hxs (fun q hq e=>?_)
  ·rcases hf1 q e with e|e
   ·exact e
   ·omega
  ·omega
 ·exact(hxs.block _ (z8 kn) (by show ¬w.heap.size=w.heap.size+1;omega)).trans kn
 ·have e:=Y4 kt (1+j) (.int .i64 (idx (addT (addTs T (es.take j)) p) p:Nat));rw[zu1 hes hp,jb6 hj] at e;rw[zu1 hes hp];exact e
 ·have e:addTs T (es.take (j+1))=addT (addTs T (es.take j)) p:=by rw[List.take_add_one,hp];exact zx8 T _ p
  rw[e];refine h2.ext hxs (fun q hq e=>?_);rcases hf q hq with h|h
  ·have:=hlt q h;omega
  ·omega
theorem jo3{w:World}{D:Nat->Prop}{k v:Int}{wd:ByteArray}{pv:Value}{p:Nd}(h:PN w D [.int .i64 k,.string wd,.int .i64 v,pv] p):qz3 p=v:=by
 cases h
 rfl
theorem qQ5(T:List Nd)(w:ByteArray)(k v:Int)(a b:Nd)(r:List Nd):(keyA T (.mk k w v (a::b::r))).val=.agg #[.string w,.int .i64 (ix T [a,b] 0),.int .i64 (ix T [a,b] 1),.int .i64 (bnd (a::b::r))]:=rfl
theorem qQ6{w:World}{sb:Nat}{nv:Value}{xs:PX}{T A:List Nd}{word:ByteArray}{a b:Nd}{r:List Nd}{g pc:Nat}{D:Nat->Prop}(h:PSt w sb nv xs T A)(hx:zs5 (.mk 2 word 0 (a::b::r)))(hr:r.length<=1)(ha:Y5 a)(hb:Y5 b)(hlen:T.length+(Z0 true [a,b]).length<=9000000)(hlA:A.length<=9000000)(hpc:(a::b::r).length<=pc)(hpc2:pc<=9223372036854775807)
  (hkid:∀ (i:Nat) (p:Nd),(a::b::r)[i]?=some p->∃ g' k' wd' v' pa' pn' pc',some (⟨g,0,none⟩:Addr)=some ⟨g',0,none⟩/\g'<w.heap.size/\D g'/\w.cell? ⟨g',i*4,none⟩=some (.int .i64 k')/\w.cell? ⟨g',i*4+1,none⟩=some (.string wd')/\w.cell? ⟨g',i*4+2,none⟩=some (.int .i64 v')/\w.cell? ⟨g',i*4+3,none⟩=some (.slice pa' pn' pc')/\PN w D [.int .i64 k',.string wd',.int .i64 v',.slice pa' pn' pc'] p)
  (hDl:∀ k,D k->k<w.heap.size) (hDT:∀ k,D k->¬PF sb xs k):
  Calls prog 111 #[.pointer (some ⟨sb,1,none⟩),.agg #[.int .i64 2,.string word,.int .i64 0,.slice (some ⟨g,0,none⟩) (a::b::r).length pc]] w fun e w'=>e=.returned (.int .i64 (idx (putN A (.mk 2 word 0 (a::b::r))) (.mk 2 word 0 (a::b::r)):Nat))/\zj8 w sb nv xs (addTs T [a,b]) (putN A (.mk 2 word 0 (a::b::r))) w':=by
 obtain⟨n,hn⟩:∃ n,(a::b::r).length=n:=⟨_,rfl⟩;have hn2:2<=n:=by rw[<- hn];simp
 have hn3:n<=3:=by rw[<- hn];simp;omega
 have hsb:=z8 h.ts.blk;have HLT:=q8 h.ts.lt;have HLTP:=q8 h.lt;have H:=q8 h;have HAX:=q8 hx;have hes:∀ p∈[a,b],Y5 p:=by
  intro p hp;simp at hp;rcases hp with rfl|rfl
  ·exact ha
  ·exact hb
 have HES:=q8 hes;have HLEN:=q8 hlen;have HKID:=q8 hkid;have HDL:=q8 hDl;have HDT:=q8 hDT;have HNR:Hid ((a::b::r).length=n):=hn;have hTW:AW2 w sb w.heap.size (w.heap.size+1) nv xs T word (.slice (some ⟨g,0,none⟩) n pc) [a,b] 0 ((w.alloc (.cells #[.int .i64 2,.string word,.int .i64 0,.slice (some ⟨g,0,none⟩) n pc] 115)).alloc (.cells #[.string word,.int .i64 0,.int .i64 0,.int .i64 0] 153)):=by
  have hx:q9 (fun _=>False) w ((w.alloc (.cells #[.int .i64 2,.string word,.int .i64 0,.slice (some ⟨g,0,none⟩) n pc] 115)).alloc (.cells #[.string word,.int .i64 0,.int .i64 0,.int .i64 0] 153)):=((q9.refl _ w).alloc _).alloc _;refine⟨hx.mono (fun _ _ f=>f.elim),?_,?_,xs.ts,xs.tm,?_,fun q hq=>.inl hq⟩
  ·rw[heap_alloc_old _ _ (by simp)];exact heap_alloc_new w _
  ·exact heap_alloc2_new w _ _
  ·simp only[List.take_zero,addTs];exact h.ts.ext hx (fun _ _ f=>f)
 have HTW:=q8 hTW;rw[hn] at hpc ⊢;clear h hx hes hlen hkid hDl hDT hTW hn ha hb hr;go_enter func111,ntmps111;go_wp2_with fail
 go_loopw [12] (fun i wr=>∃ (j:Nat),j<=2/\i=.int .i64 j/\w.heap.size+2<=wr.heap.size/\AW2 w sb w.heap.size (w.heap.size+1) nv xs T word (.slice (some ⟨g,0,none⟩) n pc) [a,b] j wr) (fun i _=>2-(intOf i).toNat)
 case atStart=>exact⟨0,Nat.zero_le _,rfl,by simp,HTW.out⟩
 case round=>
  clear HTW;obtain⟨j,hj,rfl,hws,htw⟩:=hrel;have n3:=z6 htw.nbk 3;have HTW:=q8 htw;clear htw;by_cases hlt:j<2
  ·obtain⟨p,hp⟩:∃ p,[a,b][j]?=some p:=⟨_,List.getElem?_eq_getElem (by simpa using hlt)⟩;have hpf:(a::b::r)[j]?=some p:=by
    match j,hlt,hp with
    | 0,_,hp=>exact hp
    | 1,_,hp=>exact hp
   obtain⟨g',k',wd',v',pa',pn',pc',hge,hgl,hDg,z0,z1,z2,z3,hpn⟩:=HKID.out j p hpf;cases hge;rw[<- HTW.out.ext.cell (p:=⟨g,j*4,none⟩) hgl (fun e=>HDT.out g hDg (.inl e))] at z0;rw[<- HTW.out.ext.cell (p:=⟨g,j*4+1,none⟩) hgl (fun e=>HDT.out g hDg (.inl e))] at z1;rw[<- HTW.out.ext.cell (p:=⟨g,j*4+2,none⟩) hgl (fun e=>HDT.out g hDg (.inl e))] at z2;rw[<- HTW.out.ext.cell (p:=⟨g,j*4+3,none⟩) hgl (fun e=>HDT.out g hDg (.inl e))] at z3;have hjn:j<n:=by omega
   have HP:=q8 hp;have HPN:=q8 hpn;obtain⟨ts1,tm1,hts1,hf1⟩:=HTW.out.ts;have HTS1:=q8 hts1;have HF1:=q8 hf1;have HMEM:=q8 (List.mem_of_getElem? hp);clear hp hpf hpn hgl hDg hts1 hf1;go_wp2_with fail;refine(qG8 (HES.out p HMEM.out) wr _ _ D k' wd' v' pa' pn' pc' (HPN.out.ext HTW.out.ext (fun k _ hd e=>HDT.out k hd (.inl e))) (fun k hd=>by have:=HDL.out k hd;omega) (fun k hd hq=>by
    rcases HF1.out k hq with e|e
    ·exact HDT.out k hd (.inl e)
    ·have:=HDL.out k hd;omega) HTS1.out (by
    have h1:=zt9 (ps:=[a,b].take j) (fun q hq=>HES.out q (List.mem_of_mem_take hq)) T;have h2:=zu0 true HP.out;have h3:=HLEN.out;omega)).mono ?_
   rintro e w2 ⟨rfl,ts2,tm2,hTS2,hE2,hF2⟩;obtain⟨kt,htw2⟩:=jb7 HES.out HTW.out HLT.out hws (q9.refl _ wr) HF1.out hTS2 hE2 hF2 HP.out hlt;have hsz2:w.heap.size+2<=w2.heap.size:=by have:=hE2.size;omega
   obtain⟨u,hu⟩:=qg9 (w:=word) (T:=addTs T [a,b]) (es:=[a,b]) (j:=j) (q:=1+j) (bd:=0) (by omega);have tc:=(z6 kt (1+j)).trans hu;have tf:=Q8 kt (1+j);have HT2:=q8 htw2;clear hTS2 hE2 hF2 kt htw2 hu n3 z0 z1 z2 z3;go_wp2_with fail
   go_roundw
   case measure=>simp[intOf];omega
   case rel=>exact⟨j+1,by omega,by go_num,by simpa using hsz2,HT2.out⟩
  ·have hj2:j=2:=by omega
   subst hj2;obtain⟨B,hB,hB2⟩:∃ B,(if pc=2 then some (⟨g,0,none⟩:Addr) else some ⟨g,8,none⟩)=some B/\(2<pc->B=⟨g,8,none⟩):=by
    by_cases h:pc=2
    ·exact⟨_,by rw[if_pos h],fun h2=>by omega⟩
    ·exact⟨_,by rw[if_neg h],fun _=>rfl⟩
   have HB2:=q8 hB2;have h2c:2<=pc:=by omega
   clear hB2;obtain⟨w1,hw1⟩:∃ w1,w1=wr:=⟨_,rfl⟩;subst hw1;go_wp2_with fail
   go_loopw [30] (fun i wq=>∃ (q:Nat),q<=n-2/\i=.int .i64 q/\q9 (fun k=>k=w.heap.size+1) w1 wq/\wq.heap[w.heap.size+1]?=some (.cells (acs word (addTs T [a,b]) [a,b] 2 (if 0<q then bnd (a::b::r) else 0)) 153)) (fun i _=>n-2-(intOf i).toNat)
   case atStart=>exact⟨0,Nat.zero_le _,rfl,q9.refl _ _,HTW.out.abk⟩
   case round=>
    obtain⟨q,hq,rfl,hEq,hab⟩:=hrel;have HEQ:=q8 hEq;have HAB:=q8 hab;clear hEq hab n3;by_cases hlt2:q<n-2
    ·have hq0:q=0:=by omega
     subst hq0;obtain⟨p,hp⟩:∃ p,(a::b::r)[2]?=some p:=⟨_,List.getElem?_eq_getElem (by rw[HNR.out];omega)⟩;obtain⟨g',k',wd',v',pa',pn',pc',hge,hgl,hDg,z0,z1,z2,z3,hpn⟩:=HKID.out 2 p hp;cases hge;have hE0:=HTW.out.ext;have hxg:∀ o,wr.cell? ⟨g,o,none⟩=w.cell? ⟨g,o,none⟩:=fun o=>by rw[HEQ.out.cell (p:=⟨g,o,none⟩) (by show g<_;have:=hE0.size;omega) (by show ¬g=_;omega)];exact hE0.cell (p:=⟨g,o,none⟩) hgl (fun e=>HDT.out g hDg (.inl e))
     rw[<- hxg] at z0 z1 z2 z3;have hbv:bnd (a::b::r)=v':=by unfold bnd;rw[hp];exact jo3 hpn
     have hBe:=HB2.out (by omega);subst hBe;have ab3:=z6 HAB.out 3;have ab3f:=Q8 HAB.out 3;have hlab:=z8 HAB.out;have HBV:=q8 hbv;obtain⟨u,hu⟩:=qg9 (w:=word) (T:=addTs T [a,b]) (es:=[a,b]) (j:=2) (q:=3) (bd:=if 0<0 then bnd (a::b::r) else 0) (by omega);rw[hu] at ab3;clear hp hpn hxg hE0 hbv hu hgl hDg;go_wp2_with fail
     go_roundw
     case measure=>simp[intOf];omega
     case rel=>
      refine⟨1,by omega,by go_num,?_,?_⟩
      ·exact((HEQ.out.setCell (p:=⟨w.heap.size+1,3,none⟩) (fun _=>rfl) _).alloc _)
      ·rw[heap_alloc_old _ _ (by simpa using hlab)];have e:=Y4 HAB.out 3 (.int .i64 v');rw[jo2] at e;rw[if_pos (by omega),HBV.out];exact e
    ·have hqn:q=n-2:=by omega
     have hbd:(if 0<q then bnd (a::b::r) else 0)=bnd (a::b::r):=by
      by_cases h0:0<q
      ·rw[if_pos h0]
      ·rw[if_neg h0];unfold bnd;rw[List.getElem?_eq_none (by rw[HNR.out];omega)]
     have hab2:=HAB.out;rw[hbd,qQ4] at hab2;have y0:=z6 hab2 0;have y1:=z6 hab2 1;have y2:=z6 hab2 2;have y3:=z6 hab2 3;obtain⟨ts1,tm1,hts1,hf1⟩:=HTW.out.ts;have hts1':TS w1 sb nv { xs with ts:=ts1,tm:=tm1 } (addTs T [a,b]):=hts1;obtain⟨xz,hadd,_⟩:=zg1 HES.out T;have hpst:=qG9 H.out (Nat.le_refl _) hadd.pre hts1' HTW.out.ext (fun k hk=>(hf1 k hk).imp id (fun e=>by omega));have hpq:PSt wr.drew sb nv { xs with ts:=ts1,tm:=tm1 } (addTs T [a,b]) A:=(hpst.ext HEQ.out (fun k hk e=>by
      rcases hk with hk|hk|hk
      ·rcases hf1 k hk with e2|e2
       ·have:=HLT.out k e2;omega
       ·omega
      ·have:=HLTP.out k (.inr (.inl hk));omega
      ·have:=HLTP.out k (.inr (.inr hk));omega)).ext ((q9.refl (fun _=>False) wr).drew) (fun _ _ f=>f)
     have hc:=qH0 hpq HAX.out (zU7 HES.out T) (by have:=zt9 HES.out T;have:=HLEN.out;omega) (by omega);rw[qQ5] at hc;have HC:=q8 hc;have HF1:=q8 hf1;clear hc hf1 hts1 hts1' hadd hpst hpq hab2 hbd;have HE1:=q8 HTW.out.ext;clear HTW;go_wp2_with fail
     go_region_law (go_simp;go_wp2_with (go_at_call 149;refine HC.out.mono ?_;rintro e w2 ⟨rfl,hap⟩;have HAP:=q8 hap;clear hap))
     all_goals
      go_wp2_with fail;go_ret;refine⟨rfl,?_⟩;obtain⟨ts2,tm2,at2,am2,k1,k2,k3⟩:=HAP.out;have s1:=HE1.out.size;have s2:=HEQ.out.size;have hpf1:∀ q,PF sb { xs with ts:=ts1,tm:=tm1 } q->PF sb xs q\/w.heap.size+2<=q:=by
       rintro q (e|e|e)
       ·exact(HF1.out q e).imp .inl id
       ·exact .inl (.inr (.inl e))
       ·exact .inl (.inr (.inr e))
      refine⟨ts2,tm2,at2,am2,k1,?_,?_⟩
      ·refine(((HE1.out.mono (fun _ _ e=>Or.inl e)).trans' HEQ.out (fun q hq e=>by omega)).trans' (((q9.refl (PF sb _) wr).drew).trans k2) (fun q hq e=>?_));rcases hpf1 q e with e|e
       ·exact e
       ·omega
      ·intro q hq;rcases k3 q hq with e|e
       ·exact(hpf1 q e).imp id (fun e=>by omega)
       ·have e2:wr.heap.size<=q:=e;exact .inr (by omega)
structure U2(T T' xs:List Nd):Prop where
 pre:T <+:T'
 mem:∀ y,y∈T'↔y∈T\/y∈xs
 len:T'.length<=T.length+xs.length
 nd:T.Nodup->T'.Nodup
theorem U2.refl(T:List Nd):U2 T T []:=⟨List.prefix_refl _,fun y=>by simp,by simp,id⟩
theorem U2.trans{T T' T'' xs ys:List Nd}(h:U2 T T' xs)(k:U2 T' T'' ys):U2 T T'' (xs++ys) :=
 ⟨h.pre.trans k.pre,fun y=>by rw[k.mem,h.mem];simp[or_assoc],by rw[List.length_append];have:=h.len;have:=k.len;omega,fun e=>k.nd (h.nd e)⟩
theorem U2.cast{T T' xs ys:List Nd}(h:U2 T T' xs)(e:xs=ys):U2 T T' ys:=e▸h
inductive FT(w:World)(D:Nat->Prop)(A:List Nd):List Value->Nd->Prop
 | atom {word:ByteArray} {v:Int} {ps:List Nd} (hm:.mk 2 word v ps∈A):FT w D A [.int .i64 2,.string ⟨#[]⟩,.int .i64 (idx A (.mk 2 word v ps)),.slice none 0 0] (.mk 2 word v ps)
 | node {k v:Int} {word:ByteArray} {ps:List Nd} {pv:Value} {kids:List (List Value)} (h2:¬k=2)
   (how:w.ownsRow 0 112 4 pv ps.length kids.flatten) (hl:∀ cs∈kids,cs.length=4) (hn:kids.length=ps.length) (hD:∀ g,pv.ownBlock=some g->D g)
   (hk:∀ (i:Nat) (cs:List Value) (p:Nd),kids[i]?=some cs->ps[i]?=some p->FT w D A cs p):FT w D A [.int .i64 k,.string word,.int .i64 0,pv] (.mk k word v ps)
theorem FT.ext{S D:Nat->Prop}{w w':World}{A:List Nd}{cs:List Value}{nd:Nd}(h:FT w D A cs nd)(hx:q9 S w w')(hS:∀ k,k<w.heap.size->D k->¬S k):FT w' D A cs nd:=by
 induction h with
 | atom hm=>exact .atom hm
 | node h2 how hl hn hD hk ih=>exact .node h2 (z7 how hx (fun k hk=>hS k (how.lt k hk).2 (hD k hk))) hl hn hD (fun i cs p h1 h3=>ih i cs p h1 h3)
theorem FT.mono{D D':Nat->Prop}{w:World}{A:List Nd}{cs:List Value}{nd:Nd}(h:FT w D A cs nd)(hl':∀ k,k<w.heap.size->D k->D' k):FT w D' A cs nd:=by
 induction h with
 | atom hm=>exact .atom hm
 | node h2 how hl hn hD hk ih=>exact .node h2 how hl hn (fun g hg=>hl' g (how.lt g hg).2 (hD g hg)) (fun i cs p h1 h3=>ih i cs p h1 h3)
theorem FT.pre{D:Nat->Prop}{w:World}{A A':List Nd}{cs:List Value}{nd:Nd}(h:FT w D A cs nd)(hp:A <+:A'):FT w D A' cs nd:=by
 induction h with
 | atom hm=>have h1:=FT.atom (w:=w) (D:=D) (A:=A') (hp.subset hm);rw[zI2 hp hm] at h1;exact h1
 | node h2 how hl hn hD hk ih=>exact .node h2 how hl hn hD (fun i cs p h1 h3=>ih i cs p h1 h3)
theorem FT.len{D:Nat->Prop}{w:World}{A:List Nd}{cs:List Value}{nd:Nd}(h:FT w D A cs nd):cs.length=4:=by cases h<;>rfl
theorem FT.free{D:Nat->Prop}{w:World}{sb:Nat}{nv:Value}{xs:PX}{T A A':List Nd}{cs:List Value}{nd:Nd}(h:FT w D A' cs nd)(hp:PSt w sb nv xs T A):FT w (fun q=>D q/\¬PF sb xs q) A' cs nd:=by
 induction h with
 | atom hm=>exact .atom hm
 | node h2 how hl hn hD hk ih=>
  refine .node h2 how hl hn (fun g hg=>⟨hD g hg,?_⟩) (fun i cs p h1 h3=>ih i cs p h1 h3);obtain⟨cur,hc⟩:=V4 how hg;rintro((e|e|e)|e|e)
  ·rw[e,hp.ts.blk] at hc;simp at hc
  ·exact Z7 hp.ts.row.own hc (by decide) e
  ·rcases hp.ts.row.map with⟨e2,_⟩|⟨mb,M,e2,ho,_⟩
   ·rw[e2] at e;exact absurd e (by simp[U5])
   ·rw[e2] at e;simp[U5] at e;subst e;obtain⟨es,cl,h5,_⟩:=ho;rw[hc] at h5;simp at h5
  ·exact Z7 hp.ar.own hc (by decide) e
  ·rcases hp.ar.map with⟨e2,_⟩|⟨mb,M,e2,ho,_⟩
   ·rw[e2] at e;exact absurd e (by simp[U5])
   ·rw[e2] at e;simp[U5] at e;subst e;obtain⟨es,cl,h5,_⟩:=ho;rw[hc] at h5;simp at h5
def qq7(w:World)(sb:Nat)(nv:Value)(xs:PX)(T A:List Nd)(f:Nd)(e:Ending)(w':World):Prop :=
 ∃ k wd i pa pn pc,e=.returned (.agg #[.int .i64 k,.string wd,.int .i64 i,.slice pa pn pc])/\∃ T' A',U2 T T' (J0 true f)/\U2 A A' (J0 false f)/\FT w' (fun q=>w.heap.size<=q) A' [.int .i64 k,.string wd,.int .i64 i,.slice pa pn pc] f/\zj8 w sb nv xs T' A' w'
def js4(sb:Nat)(nv:Value)(f:Nd):Prop:=∀ (w:World) (xs:PX) (T A:List Nd) (D:Nat->Prop) (k':Int) (wd':ByteArray) (v':Int) (pa':Option Addr) (pn' pc':Nat),PN w D [.int .i64 k',.string wd',.int .i64 v',.slice pa' pn' pc'] f->(∀ k,D k->k<w.heap.size)->(∀ k,D k->¬PF sb xs k)->PSt w sb nv xs T A->T.length+(J0 true f).length<=9000000->A.length+(J0 false f).length<=9000000 ->
 Calls prog 73 #[.pointer (some ⟨sb,1,none⟩),.agg #[.int .i64 k',.string wd',.int .i64 v',.slice pa' pn' pc']] w (qq7 w sb nv xs T A f)
theorem jb8{w V w2 W:World}{sb:Nat}{nv:Value}{xs:PX}{T' A':List Nd}{ts2 tm2 at2 am2:Value}(hxV:q9 (fun _=>False) w V)(hVs:w.heap.size+2<=V.heap.size)(hlt:∀ k,PF sb xs k->k<w.heap.size)(k1:PSt w2 sb nv { xs with ts:=ts2,tm:=tm2,at_:=at2,am:=am2 } T' A')(k2:q9 (PF sb xs) V w2)(k3:∀ k,PF sb { xs with ts:=ts2,tm:=tm2,at_:=at2,am:=am2 } k->PF sb xs k\/V.heap.size<=k)(hW:q9 (fun k=>k=w.heap.size+1) w2 W):zj8 w sb nv xs T' A' W:=by
 refine⟨ts2,tm2,at2,am2,k1.ext hW (fun k hk e=>?_),((hxV.mono (fun _ _ f=>f.elim)).trans k2).trans' hW (fun k hk e=>by omega),fun k hk=>(k3 k hk).imp id (fun e=>by omega)⟩;rcases k3 k hk with h|h
 ·have:=hlt k h;omega
 ·omega
theorem qF3{T:List Nd}{word:ByteArray}{a b:Nd}{r:List Nd}(ha:Y5 a)(hb:Y5 b)(hr:r=[]\/∃ v,r=[.mk 5 ByteArray.empty v []] /\ -1000<=v/\v<=1000):U2 T (addTs T [a,b]) (J0 true (.mk 2 word 0 (a::b::r)))/\(Z0 true [a,b]).length<=(J0 true (.mk 2 word 0 (a::b::r))).length/\J0 false (.mk 2 word 0 (a::b::r))=[.mk 2 word 0 (a::b::r)]:=by
 have hes:∀ p∈[a,b],Y5 p:=by
  intro p hp;simp at hp;rcases hp with rfl|rfl
  ·exact ha
  ·exact hb
 obtain⟨xz,hadd,h2,h3⟩:=zg1 hes T;have e:J0 true (.mk 2 word 0 (a::b::r))=Z0 true [a,b]:=by simp only[J0,Z0];rw[if_neg (by simp[O7])];rcases hr with rfl|⟨v,rfl,_⟩<;>simp[Z0,J0,O7]
 refine⟨⟨hadd.pre,fun y=>by rw[hadd.mem,h2,e],by rw[e];have:=hadd.len;omega,hadd.nd⟩,by rw[e];exact Nat.le_refl _,?_⟩;simp only[J0,Z0];rw[if_pos (by simp[O7]),k9 ha,k9 hb];rcases hr with rfl|⟨v,rfl,_⟩<;>simp[Z0,J0,O7]
theorem qF4(A:List Nd)(x:Nd):U2 A (putN A x) [x]:=⟨zB2,fun y=>by rw[zh3];simp,by have:=zN9 (T:=A) (x:=x);simp;omega,zk6⟩
theorem qy6{w:World}{sb:Nat}{nv:Value}{xs:PX}{T A:List Nd}{word:ByteArray}{a b:Nd}{r:List Nd}{pa:Option Addr}{pn pc:Nat}{D:Nat->Prop}(hx:zs5 (.mk 2 word 0 (a::b::r)))(ha:Y5 a)(hb:Y5 b)(hr:r=[]\/∃ v,r=[.mk 5 ByteArray.empty v []] /\ -1000<=v/\v<=1000)(hpn:PN w D [.int .i64 2,.string word,.int .i64 0,.slice pa pn pc] (.mk 2 word 0 (a::b::r)))(hDl:∀ k,D k->k<w.heap.size)(hDT:∀ k,D k->¬PF sb xs k)(h:PSt w sb nv xs T A)(hl1:T.length+(J0 true (.mk 2 word 0 (a::b::r))).length<=9000000)(hl2:A.length+(J0 false (.mk 2 word 0 (a::b::r))).length<=9000000):
  Calls prog 73 #[.pointer (some ⟨sb,1,none⟩),.agg #[.int .i64 2,.string word,.int .i64 0,.slice pa pn pc]] w (qq7 w sb nv xs T A (.mk 2 word 0 (a::b::r))):=by
 obtain⟨had,hsl,hsa⟩:=qF3 (T:=T) (word:=word) ha hb hr;have hr1:r.length<=1:=by rcases hr with rfl|⟨v,rfl,_⟩<;>simp
 obtain⟨V,hV⟩:∃ V,(w.alloc (.cells #[.int .i64 2,.string word,.int .i64 0,.slice pa pn pc] 115)).alloc (.cells #[.int .i64 0,.string ⟨#[]⟩,.int .i64 0,.slice none 0 0] 112)=V:=⟨_,rfl⟩;have hxV:q9 (fun _=>False) w V:=by rw[<- hV];exact((q9.refl _ w).alloc _).alloc _
 have kR:V.heap[w.heap.size+1]?=some (.cells #[.int .i64 0,.string ⟨#[]⟩,.int .i64 0,.slice none 0 0] 112):=by rw[<- hV];exact heap_alloc2_new w _ _
 have hVs:V.heap.size=w.heap.size+2:=by rw[<- hV];simp
 have hlt:=h.lt;have hc:Calls prog 111 #[.pointer (some ⟨sb,1,none⟩),.agg #[.int .i64 2,.string word,.int .i64 0,.slice pa pn pc]] V fun e w'=>e=.returned (.int .i64 (idx (putN A (.mk 2 word 0 (a::b::r))) (.mk 2 word 0 (a::b::r)):Nat))/\zj8 V sb nv xs (addTs T [a,b]) (putN A (.mk 2 word 0 (a::b::r))) w':=by
  have hpV:=hpn.ext hxV (fun _ _ _ f=>f);cases hpV with
  | @mk _ _ _ _ _ kids how hkl hkn hD hk=>obtain⟨a',cap,hv,h1,h2,hkid⟩:=zA6 how hkl hkn hD hk;cases hv;obtain⟨g,_,_,_,_,_,_,rfl,_⟩:=hkid 0 a rfl;exact qQ6 (h.ext hxV (fun _ _ f=>f)) hx hr1 ha hb (by omega) (by rw[hsa] at hl2;simp at hl2;omega) h1 h2 hkid (fun k hd=>by have:=hDl k hd;omega) hDT
 have HC:=q8 hc;have HV:=q8 hV;have HXV:=q8 hxV;have KR:=q8 kR;have HLT:=q8 hlt;have HAD:=q8 had;have HSA:=q8 hsa;clear hc hV hxV kR hlt had hsa hpn h hDl hDT hl1 hl2 hx ha hb hr hsl;go_enter func73,ntmps73;go_wp2_with fail;rw[HV.out];refine HC.out.mono ?_;rintro e w2 ⟨rfl,hap⟩;obtain⟨i,hi⟩:∃ i,idx (putN A (.mk 2 word 0 (a::b::r))) (.mk 2 word 0 (a::b::r))=i:=⟨_,rfl⟩;have HI:=q8 hi;rw[hi];clear hi;obtain⟨ts2,tm2,at2,am2,k1,k2,k3⟩:=hap;have kr2:w2.heap[w.heap.size+1]?=some (.cells #[.int .i64 0,.string ⟨#[]⟩,.int .i64 0,.slice none 0 0] 112):=(k2.block _ (z8 KR.out) (fun hq=>by have:=HLT.out _ hq;omega)).trans KR.out;have r0:=z6 kr2 0;have r1:=z6 kr2 1;have r2:=z6 kr2 2;have r3:=z6 kr2 3;have f0:=Q8 kr2 0;have f1:=Q8 kr2 1;have f2:=Q8 kr2 2;have f3:=Q8 kr2 3;have hlr:=z8 kr2;have K1:=q8 k1;have K2:=q8 k2;have K3:=q8 k3;clear k1 k2 k3 kr2;go_wp2_with fail;refine bodyPost_ret (v:=.agg #[.int .i64 2,.string ⟨#[]⟩,.int .i64 i,.slice none 0 0]) (by simp[results,results73,go_sem,r0,r1,r2,r3]) rfl ?_;refine⟨2,⟨#[]⟩,i,none,0,0,rfl,_,_,HAD.out,(qF4 A _).cast HSA.out.symm,by rw[<- HI.out];exact .atom (zh3.2 (.inr rfl)),?_⟩;exact jb8 HXV.out (by omega) HLT.out K1.out K2.out K3.out ((((((q9.refl (fun k=>k=w.heap.size+1) w2).setCell (p:=⟨w.heap.size+1,0,none⟩) (fun _=>rfl) _).setCell (p:=⟨w.heap.size+1,1,none⟩) (fun _=>rfl) _).setCell (p:=⟨w.heap.size+1,2,none⟩) (fun _=>rfl) _).setCell (p:=⟨w.heap.size+1,3,none⟩) (fun _=>rfl) _))
def qh0(w:World)(D:Nat->Prop)(A:List Nd)(ys:List Value)(ps:List Nd)(j:Nat):Prop :=
 ∃ kids:List (List Value),ys=kids.flatten/\(∀ cs∈kids,cs.length=4)/\kids.length=j/\∀ (i:Nat) (cs:List Value) (p:Nd),kids[i]?=some cs->ps[i]?=some p->FT w D A cs p
theorem qh0.snoc{wr w2 W:World}{D D1 D2:Nat->Prop}{A1 A2:List Nd}{ys zs:List Value}{ps:List Nd}{j:Nat}{p:Nd}(h:qh0 wr D1 A1 ys ps j)(hp:ps[j]?=some p)(hA:A1 <+:A2)(hz:FT w2 D2 A2 zs p)
  (h1:∀ cs q,FT wr D1 A1 cs q->FT W D A1 cs q) (h2:FT w2 D2 A2 zs p->FT W D A2 zs p):qh0 W D A2 (ys++zs) ps (j+1):=by
 obtain⟨kids,rfl,hl,hn,hk⟩:=h;refine⟨kids++[zs],by simp,fun cs hc=>?_,by simp[hn],fun i cs q hi hq=>?_⟩
 ·rcases List.mem_append.1 hc with e|e
  ·exact hl cs e
  ·rw[List.mem_singleton.1 e];exact hz.len
 ·by_cases hlt:i<kids.length
  ·rw[List.getElem?_append_left hlt] at hi;exact(h1 cs q (hk i cs q hi hq)).pre hA
  ·have hlen:=(List.getElem?_eq_some_iff.1 hi).1;simp at hlen;have hij:i=kids.length:=by omega
   subst hij;rw[List.getElem?_append_right (Nat.le_refl _)] at hi;simp at hi;subst hi;rw[hn,hp] at hq;obtain rfl:p=q:=by simpa using hq
   exact h2 hz
structure FW(w:World)(sb:Nat)(nv:Value)(xs:PX)(T A:List Nd)(k:Int)(word:ByteArray)(pv:Value)(ps:List Nd)(j:Nat)(wr:World):Prop where
 ext:q9 (PF sb xs) w wr
 nbk:wr.heap[w.heap.size]?=some (.cells #[.int .i64 k,.string word,.int .i64 0,pv] 115)
 rbk:wr.heap[w.heap.size+1]?=some (.cells #[.int .i64 0,.string ⟨#[]⟩,.int .i64 0,.slice none 0 0] 112)
 row:∃ fv ys,wr.heap[w.heap.size+2]?=some (.cells #[.int .i64 k,.string word,.int .i64 0,fv] 112)/\wr.ownsRow 0 112 4 fv j ys/\(∀ q,fv.ownBlock=some q->w.heap.size+3<=q) /\
  ∃ ts' tm' at' am' T' A',PSt wr sb nv { xs with ts:=ts',tm:=tm',at_:=at',am:=am' } T' A'/\U2 T T' (Z0 true (ps.take j))/\U2 A A' (Z0 false (ps.take j))/\(∀ q,PF sb { xs with ts:=ts',tm:=tm',at_:=at',am:=am' } q->PF sb xs q\/w.heap.size+3<=q)/\(∀ q,fv.ownBlock=some q->¬PF sb { xs with ts:=ts',tm:=tm',at_:=at',am:=am' } q)/\qh0 wr (fun q=>w.heap.size+3<=q/\¬fv.ownBlock=some q) A' ys ps j
theorem jb9{w wr V w2 w0 w3:World}{sb g cap':Nat}{nv pv fv:Value}{xs:PX}{T A T1 A1 T2 A2:List Nd}{k:Int}{word:ByteArray}{ps:List Nd}{j:Nat}{p:Nd}{ys zs:List Value}{ts1 tm1 at1 am1 ts2 tm2 at2 am2:Value}(h:FW w sb nv xs T A k word pv ps j wr)(hlt:∀ q,PF sb xs q->q<w.heap.size)
  (hfv:wr.heap[w.heap.size+2]?=some (.cells #[.int .i64 k,.string word,.int .i64 0,fv] 112)) (hown:wr.ownsRow 0 112 4 fv j ys) (hfq:∀ q,fv.ownBlock=some q->w.heap.size+3<=q)
  (hT1:U2 T T1 (Z0 true (ps.take j))) (hA1:U2 A A1 (Z0 false (ps.take j))) (hf1:∀ q,PF sb { xs with ts:=ts1,tm:=tm1,at_:=at1,am:=am1 } q->PF sb xs q\/w.heap.size+3<=q) (hfn:∀ q,fv.ownBlock=some q->¬PF sb { xs with ts:=ts1,tm:=tm1,at_:=at1,am:=am1 } q)
  (hx:q9 (fun _=>False) wr V) (hT2:U2 T1 T2 (J0 true p)) (hA2:U2 A1 A2 (J0 false p)) (h2:PSt w2 sb nv { xs with ts:=ts2,tm:=tm2,at_:=at2,am:=am2 } T2 A2) (hE:q9 (PF sb { xs with ts:=ts1,tm:=tm1,at_:=at1,am:=am1 }) V w2) (hf2:∀ q,PF sb { xs with ts:=ts2,tm:=tm2,at_:=at2,am:=am2 } q->PF sb { xs with ts:=ts1,tm:=tm1,at_:=at1,am:=am1 } q\/V.heap.size<=q)
  (hx0:q9 (fun _=>False) w2 w0) (hgrow:w0.grownBy w3 fv.ownBlock) (hown3:w3.ownsRow 0 112 4 (.slice (some ⟨g,0,none⟩) (j+1) cap') (j+1) (ys++zs)) (hat:fv.ownBlock=some g\/w2.heap.size<=g) (hp:ps[j]?=some p) (hps1:PSt wr sb nv { xs with ts:=ts1,tm:=tm1,at_:=at1,am:=am1 } T1 A1) (hkids:qh0 wr (fun q=>w.heap.size+3<=q/\¬fv.ownBlock=some q) A1 ys ps j) (hft:FT w2 (fun q=>V.heap.size<=q) A2 zs p):
  FW w sb nv xs T A k word pv ps (j+1) (w3.setCell ⟨w.heap.size+2,3,none⟩ (.slice (some ⟨g,0,none⟩) (j+1) cap')):=by
 have s0:=h.ext.size;have l0:=z8 h.nbk;have l1:=z8 h.rbk;have l2:=z8 hfv;have sx:=hx.size;have sE:=hE.size;have s2:=hx0.size;have hlt2:=h2.lt;have hno:∀ q,w.heap.size<=q->q<w.heap.size+3->¬PF sb { xs with ts:=ts1,tm:=tm1,at_:=at1,am:=am1 } q:=by
  intro q h1 h2 h3;rcases hf1 q h3 with e|e
  ·have:=hlt q e;omega
  ·omega
 have hfl:∀ q,fv.ownBlock=some q->q<wr.heap.size:=fun q hq=>(hown.lt q hq).2
 have hxx:q9 (fun q=>PF sb { xs with ts:=ts1,tm:=tm1,at_:=at1,am:=am1 } q\/fv.ownBlock=some q\/q=w.heap.size+2) wr (w3.setCell ⟨w.heap.size+2,3,none⟩ (.slice (some ⟨g,0,none⟩) (j+1) cap')):=by have e1:q9 (fun q=>PF sb { xs with ts:=ts1,tm:=tm1,at_:=at1,am:=am1 } q\/fv.ownBlock=some q\/q=w.heap.size+2) wr w3:=(((hx.mono (fun _ _ f=>f.elim)).trans (hE.mono (fun _ _ e=>.inl e))).trans (hx0.mono (fun _ _ f=>f.elim))).grown hgrow (fun q hq _=>.inr (.inl hq));exact e1.setCell (p:=⟨w.heap.size+2,3,none⟩) (fun _=>.inr (.inr rfl)) _
 have keep:∀ q o,q<w.heap.size+2->w.heap.size<=q->wr.heap[q]?=some o->(w3.setCell ⟨w.heap.size+2,3,none⟩ (.slice (some ⟨g,0,none⟩) (j+1) cap')).heap[q]?=some o:=by
  intro q o h1 h2 h3;refine(hxx.block q (z8 h3) ?_).trans h3;rintro(e|e|e)
  ·exact hno q h2 (by omega) e
  ·have:=hfq q e;omega
  ·omega
 have k3:w3.heap[w.heap.size+2]?=some (.cells #[.int .i64 k,.string word,.int .i64 0,fv] 112):=by
  have e1:q9 (fun q=>PF sb { xs with ts:=ts1,tm:=tm1,at_:=at1,am:=am1 } q\/fv.ownBlock=some q) wr w3:=(((hx.mono (fun _ _ f=>f.elim)).trans (hE.mono (fun _ _ e=>.inl e))).trans (hx0.mono (fun _ _ f=>f.elim))).grown hgrow (fun q hq _=>.inr hq);refine(e1.block _ l2 ?_).trans hfv;rintro(e|e)
  ·exact hno _ (by omega) (by omega) e
  ·have:=hfq _ e;omega
 have hx3:q9 (fun q=>fv.ownBlock=some q) w2 w3:=(hx0.mono (fun _ _ f=>f.elim)).grown hgrow (fun q hq _=>hq);have hg3:w.heap.size+3<=g:=by
  rcases hat with e|e
  ·exact hfq g e
  ·omega
 have hfn2:∀ q,fv.ownBlock=some q->¬PF sb { xs with ts:=ts2,tm:=tm2,at_:=at2,am:=am2 } q:=by
  intro q hq h3;rcases hf2 q h3 with e|e
  ·exact hfn q hq e
  ·have:=hfl q hq;omega
 have hf:∀ q,PF sb { xs with ts:=ts2,tm:=tm2,at_:=at2,am:=am2 } q->PF sb xs q\/w.heap.size+3<=q:=by
  intro q hq;rcases hf2 q hq with e|e
  ·exact hf1 q e
  ·exact .inr (by omega)
 have hW:q9 (fun q=>q=w.heap.size+2) w3 (w3.setCell ⟨w.heap.size+2,3,none⟩ (.slice (some ⟨g,0,none⟩) (j+1) cap')):=(q9.refl (fun q=>q=w.heap.size+2) w3).setCell (p:=⟨w.heap.size+2,3,none⟩) (fun _=>rfl) _;have et:Z0 true (ps.take (j+1))=Z0 true (ps.take j)++J0 true p:=by rw[List.take_add_one,hp,zf0];simp[Z0]
 have ef:Z0 false (ps.take (j+1))=Z0 false (ps.take j)++J0 false p:=by rw[List.take_add_one,hp,zf0];simp[Z0]
 refine⟨h.ext.trans' hxx (fun q hq e=>?_),keep _ _ (by omega) (Nat.le_refl _) h.nbk,keep _ _ (by omega) (by omega) h.rbk,.slice (some ⟨g,0,none⟩) (j+1) cap',ys++zs,Y4 k3 3 _,z7 hown3 hW (fun q hq e=>by simp[Value.ownBlock] at hq;omega),fun q hq=>by simp[Value.ownBlock] at hq;omega,ts2,tm2,at2,am2,T2,A2,?_,(hT1.trans hT2).cast et.symm,(hA1.trans hA2).cast ef.symm,hf,?_,?_⟩
 ·rcases e with e|e|e
  ·rcases hf1 q e with e|e
   ·exact e
   ·omega
  ·have:=hfq q e;omega
  ·omega
 ·refine(h2.ext hx3 (fun q hq e=>hfn2 q e hq)).ext hW (fun q hq e=>?_);rcases hf q hq with e2|e2
  ·have:=hlt q e2;omega
  ·omega
 ·intro q hq h3;simp[Value.ownBlock] at hq;subst hq;rcases hat with e|e
  ·exact hfn2 g e h3
  ·have:=hlt2 g h3;omega
 ·refine hkids.snoc hp hA2.pre hft (fun cs q hq=>?_) (fun hq=>?_)
  ·have hq1:=(hq.free hps1).mono (D':=fun k=>(w.heap.size+3<=k/\¬fv.ownBlock=some k/\¬PF sb { xs with ts:=ts1,tm:=tm1,at_:=at1,am:=am1 } k)/\¬(Value.slice (some ⟨g,0,none⟩) (j+1) cap').ownBlock=some k) (fun k hk hd=>⟨⟨hd.1.1,hd.1.2,hd.2⟩,fun e=>by
    simp[Value.ownBlock] at e;subst e;rcases hat with e|e
    ·exact hd.1.2 e
    ·omega⟩)
   exact(hq1.ext hxx (fun k hk hd e=>by
    rcases e with e|e|e
    ·exact hd.1.2.2 e
    ·exact hd.1.2.1 e
    ·have:=hd.1.1;omega)).mono (fun k hk hd=>⟨hd.1.1,hd.2⟩)
  ·have hq1:=hq.mono (D':=fun k=>(V.heap.size<=k)/\¬(Value.slice (some ⟨g,0,none⟩) (j+1) cap').ownBlock=some k) (fun k hk hd=>⟨hd,fun e=>by
    simp[Value.ownBlock] at e;subst e;rcases hat with e|e
    ·have:=hfl g e;omega
    ·omega⟩)
   exact((hq1.ext hx3 (fun k hk hd e=>by have:=hfl k e;have:=hd.1;omega)).ext hW (fun k hk hd e=>by have:=hd.1;omega)).mono (fun k hk hd=>⟨by have:=hd.1;omega,hd.2⟩)
theorem jc0{w wr W:World}{sb:Nat}{nv pv:Value}{xs:PX}{T A:List Nd}{k:Int}{word:ByteArray}{ps:List Nd}(hlt:∀ q,PF sb xs q->q<w.heap.size)(h:FW w sb nv xs T A k word pv ps ps.length wr)(hW:q9 (fun q=>q=w.heap.size+1) wr W)(hk:∀ t,O7 t k=false){fv:Value}(hfv:wr.heap[w.heap.size+2]?=some (.cells #[.int .i64 k,.string word,.int .i64 0,fv] 112)):∃ T' A',U2 T T' (J0 true (.mk k word 0 ps))/\U2 A A' (J0 false (.mk k word 0 ps))/\FT W (fun q=>w.heap.size<=q) A' [.int .i64 k,.string word,.int .i64 0,fv] (.mk k word 0 ps)/\zj8 w sb nv xs T' A' W:=by
 obtain⟨fv2,ys,hfv2,hown,hfq,ts',tm',at',am',T',A',h1,h2,h3,h4,_,kids,rfl,hl,hn,hkf⟩:=h.row;rw[hfv] at hfv2;obtain rfl:fv=fv2:=by simpa using hfv2
 have e:∀ t,Z0 t (ps.take ps.length)=J0 t (.mk k word 0 ps):=by
  intro t;rw[List.take_of_length_le (Nat.le_refl _),J0,if_neg (by rw[hk t];decide)]
  rfl
 have h2k:¬k=2:=by intro e2;subst e2;have:=hk false;simp[O7] at this
 refine⟨T',A',h2.cast (e true),h3.cast (e false),.node h2k (z7 hown hW (fun q hq e=>by have:=hfq q hq;omega)) hl hn (fun g hg=>by have:=hfq g hg;omega) (fun i cs p hi hp=>((hkf i cs p hi hp).ext hW (fun q _ hd e=>by have:=hd.1;omega)).mono (fun q _ hd=>by have:=hd.1;omega)),ts',tm',at',am',h1.ext hW (fun q hq e=>?_),h.ext.trans' hW (fun q hq e=>by omega),fun q hq=>(h4 q hq).imp id (fun e=>by omega)⟩;rcases h4 q hq with e2|e2
 ·have:=hlt q e2;omega
 ·omega
theorem qQ7{w:World}{sb:Nat}{nv:Value}{xs:PX}{T A:List Nd}{k:Int}{word:ByteArray}{ps:List Nd}{pa:Option Addr}{pc:Nat}{D:Nat->Prop}(h:PSt w sb nv xs T A)(hk2:(k==2)=false)(hk:∀ t,O7 t k=false)(hlen:T.length+(Z0 true ps).length<=9000000)(hlen2:A.length+(Z0 false ps).length<=9000000)(hpl:ps.length<=9000000)
  (hkid:∀ (i:Nat) (p:Nd),ps[i]?=some p->∃ g k' wd' v' pa' pn' pc',pa=some ⟨g,0,none⟩/\g<w.heap.size/\D g/\w.cell? ⟨g,i*4,none⟩=some (.int .i64 k')/\w.cell? ⟨g,i*4+1,none⟩=some (.string wd')/\w.cell? ⟨g,i*4+2,none⟩=some (.int .i64 v')/\w.cell? ⟨g,i*4+3,none⟩=some (.slice pa' pn' pc')/\PN w D [.int .i64 k',.string wd',.int .i64 v',.slice pa' pn' pc'] p)
  (hDl:∀ k,D k->k<w.heap.size) (hDT:∀ k,D k->¬PF sb xs k) (hih:∀ p∈ps,js4 sb nv p):
  Calls prog 73 #[.pointer (some ⟨sb,1,none⟩),.agg #[.int .i64 k,.string word,.int .i64 0,.slice pa ps.length pc]] w (qq7 w sb nv xs T A (.mk k word 0 ps)):=by
 have HLT:=q8 h.lt;have H:=q8 h;have HK:=q8 hk;have HLEN:=q8 hlen;have HLEN2:=q8 hlen2;have HKID:=q8 hkid;have HDL:=q8 hDl;have HDT:=q8 hDT;have HIH:=q8 hih;have hFW:FW w sb nv xs T A k word (.slice pa ps.length pc) ps 0 (((w.alloc (.cells #[.int .i64 k,.string word,.int .i64 0,.slice pa ps.length pc] 115)).alloc (.cells #[.int .i64 0,.string ⟨#[]⟩,.int .i64 0,.slice none 0 0] 112)).alloc (.cells #[.int .i64 k,.string word,.int .i64 0,.slice none 0 0] 112)):=by
  have hx:q9 (fun _=>False) w (((w.alloc (.cells #[.int .i64 k,.string word,.int .i64 0,.slice pa ps.length pc] 115)).alloc (.cells #[.int .i64 0,.string ⟨#[]⟩,.int .i64 0,.slice none 0 0] 112)).alloc (.cells #[.int .i64 k,.string word,.int .i64 0,.slice none 0 0] 112)):=(((q9.refl _ w).alloc _).alloc _).alloc _;refine⟨hx.mono (fun _ _ f=>f.elim),?_,?_,.slice none 0 0,[],?_,World.ownsRow_nil _ _ _ _,fun q hq=>absurd hq (by simp[Value.ownBlock]),xs.ts,xs.tm,xs.at_,xs.am,T,A,h.ext hx (fun _ _ f=>f),U2.refl T,U2.refl A,fun q hq=>.inl hq,fun q hq=>absurd hq (by simp[Value.ownBlock]),[],rfl,by simp,rfl,by simp⟩
  ·rw[heap_alloc_old _ _ (by simp;omega),heap_alloc_old _ _ (by simp)];exact heap_alloc_new w _
  ·rw[heap_alloc_old _ _ (by simp)];exact heap_alloc2_new w _ _
  ·have e:=heap_alloc_new ((w.alloc (.cells #[.int .i64 k,.string word,.int .i64 0,.slice pa ps.length pc] 115)).alloc (.cells #[.int .i64 0,.string ⟨#[]⟩,.int .i64 0,.slice none 0 0] 112)) (.cells #[.int .i64 k,.string word,.int .i64 0,.slice none 0 0] 112);simpa using e
 have HFW:=q8 hFW;obtain⟨i0,hi,hz0,hz1,hz2⟩:=info_parts zH8;have HI:Hid (prog.info? 112=some i0/\i0.zero=some (.agg #[.int .i64 0,.string ByteArray.empty,.int .i64 0,.slice none 0 0])/\i0.size=4/\i0.bytes=56):=⟨hi,hz0,hz1,hz2⟩;clear h hk hlen hlen2 hkid hDl hDT hih hFW hi hz0 hz1 hz2;go_enter func73,ntmps73;go_wp2_with fail
 go_loopw [23] (fun i wr=>∃ (j:Nat),j<=ps.length/\i=.int .i64 j/\FW w sb nv xs T A k word (.slice pa ps.length pc) ps j wr) (fun i _=>ps.length-(intOf i).toNat)
 case atStart=>exact⟨0,Nat.zero_le _,rfl,HFW.out⟩
 case round=>
  clear HFW;obtain⟨j,hj,rfl,hfw⟩:=hrel;have HFW:=q8 hfw;clear hfw;by_cases hlt:j<ps.length
  ·obtain⟨p,hp⟩:∃ p,ps[j]?=some p:=⟨_,List.getElem?_eq_getElem hlt⟩;obtain⟨g,k',wd',v',pa',pn',pc',rfl,hgl,hDg,z0,z1,z2,z3,hpn⟩:=HKID.out j p hp;rw[<- HFW.out.ext.cell (p:=⟨g,j*4,none⟩) hgl (HDT.out g hDg)] at z0;rw[<- HFW.out.ext.cell (p:=⟨g,j*4+1,none⟩) hgl (HDT.out g hDg)] at z1;rw[<- HFW.out.ext.cell (p:=⟨g,j*4+2,none⟩) hgl (HDT.out g hDg)] at z2;rw[<- HFW.out.ext.cell (p:=⟨g,j*4+3,none⟩) hgl (HDT.out g hDg)] at z3;have HP:=q8 hp;have HPN:=q8 hpn;have HMEM:=q8 (List.mem_of_getElem? hp);obtain⟨fv,ys,hfv,hown,hfq,ts1,tm1,at1,am1,T1,A1,hps1,hT1,hA1,hf1,hfn,hkids⟩:=HFW.out.row;obtain⟨fa,fc,rfl⟩:=Q0 hown;have HFV:=q8 hfv;have HOWN:=q8 hown;have HFQ:=q8 hfq;have HPS1:=q8 hps1;have HT1:=q8 hT1;have HA1:=q8 hA1;have HF1:=q8 hf1;have HFN:=q8 hfn;have HKI:=q8 hkids;clear hp hpn hgl hDg hfv hown hfq hps1 hT1 hA1 hf1 hfn hkids;go_wp2_with fail;obtain⟨V,hV⟩:∃ V,wr.alloc (.cells #[.int .i64 k',.string wd',.int .i64 v',.slice pa' pn' pc'] 115)=V:=⟨_,rfl⟩;have HXV:Hid (q9 (fun _=>False) wr V):=by rw[<- hV];exact(q9.refl _ wr).alloc _
   have HXD:Hid (q9 (fun _=>False) wr V.drew):=HXV.out.drew;have kP:V.heap[wr.heap.size]?=some (.cells #[.int .i64 k',.string wd',.int .i64 v',.slice pa' pn' pc'] 115):=by rw[<- hV];exact heap_alloc_new wr _
   have kT:V.heap[w.heap.size+1+1]?=some (.cells #[.int .i64 k,.string word,.int .i64 0,.slice fa j fc] 112):=(HXV.out.block _ (z8 HFV.out) (fun f=>f)).trans HFV.out;rw[hV];clear hV z0 z1 z2 z3;have z0:=z6 kP 0;have z1:=z6 kP 1;have z2:=z6 kP 2;have z3:=z6 kP 3;have t3:=z6 kT 3;have hlT:=z8 kT;have KT:=q8 kT;have HC:=q8 (HIH.out p HMEM.out V.drew _ T1 A1 D k' wd' v' pa' pn' pc' ((HPN.out.ext HFW.out.ext (fun k _ hd=>HDT.out k hd)).ext HXD.out (fun _ _ _ f=>f)) (fun k hd=>by have:=HDL.out k hd;have:=HFW.out.ext.size;have:=HXD.out.size;omega) (fun k hd hq=>by
    rcases HF1.out k hq with e|e
    ·exact HDT.out k hd e
    ·have:=HDL.out k hd;omega) (HPS1.out.ext HXD.out (fun _ _ f=>f)) (by
    have h1:=HT1.out.len;have h2:=zu0 true HP.out;have h3:=HLEN.out;omega) (by
    have h1:=HA1.out.len;have h2:=zu0 false HP.out;have h3:=HLEN2.out;omega))
   have hno:¬PF sb { xs with ts:=ts1,tm:=tm1,at_:=at1,am:=am1 } (w.heap.size+1+1):=fun hq=>by
    rcases HF1.out _ hq with e|e
    ·have:=HLT.out _ e;omega
    ·omega
   have HNO:=q8 hno;obtain⟨hi,hz0,hz1,hz2⟩:=HI.out;clear kP kT hno
   go_region_law (first|(refine step_append_lies _ (by rfl) _ _ _ (by rfl) 0 112 i0 _ 4 56 underlying89 hi hz0 hz1 hz2 rfl (by omega) (.slice fa j fc) j ys (by rfl) (HO2.out.alloc _) ⟨w2.heap.size,0,none⟩ 1 1 [.int .i64 rk,.string rwd',.int .i64 ri,.slice rpa rpn rpc] (by rfl) (by rfl) (World.news_of_block (cs:=#[.int .i64 rk,.string rwd',.int .i64 ri,.slice rpa rpn rpc]) (t:=112) (fr:=(0,0)) (heap_alloc_new w2 _)) (by simp[Value.oneCell']) (by omega) (by unfold maxLen;omega) (by omega) (Nat.zero_le _) (w2.heap.size+1) (by simp) ?_;intro g3 cap3 w3 hown3 hgrow hat hlt3;have kb3:w3.heap[w.heap.size+1+1]?=some (.cells #[.int .i64 k,.string word,.int .i64 0,.slice fa j fc] 112):=(hgrow.block _ (by have:=z8 KB2.out;simp;omega) (fun e=>by have:=HFQ.out _ e.symm;omega)).trans ((Below.heap_alloc w2 _ _ (z8 KB2.out)).trans KB2.out);have d3:=z6 kb3 3;have d3f:=Q8 kb3 3)|(go_simp;go_wp2_with (go_at_call 73;refine HC.out.mono ?_;rintro e w2 ⟨rk,rwd',ri,rpa,rpn,rpc,rfl,T2,A2,hT2,hA2,hft,ts2,tm2,at2,am2,k1,k2,k3⟩;have HFT:=q8 hft;have KB2:Hid (w2.heap[w.heap.size+1+1]?=some (.cells #[.int .i64 k,.string word,.int .i64 0,.slice fa j fc] 112)):=(k2.block _ hlT HNO.out).trans KT.out;have c23:=z6 KB2.out 3;have hl2:=z8 KB2.out;have hne2:¬w.heap.size+1+1=w2.heap.size:=(by omega);have HO2:=q8 (z7 (z7 HOWN.out HXD.out (fun _ _ f=>f)) k2 (fun q hq=>HFN.out q hq));have HK1:=q8 k1;have HK2:=q8 k2;have HK3:=q8 k3;have HT2:=q8 hT2;have HA2:=q8 hA2;clear k1 k2 k3 hT2 hA2 hft)))
   all_goals
    have hfs:=jb9 HFW.out HLT.out HFV.out HOWN.out HFQ.out HT1.out HA1.out HF1.out HFN.out HXD.out HT2.out HA2.out HK1.out HK2.out HK3.out ((q9.refl (fun _=>False) w2).alloc _) hgrow hown3 (hat.imp id (fun e=>by omega)) HP.out HPS1.out HKI.out HFT.out;have HFS:=q8 hfs;clear hfs hown3 hgrow hat kb3;go_wp2_with fail
    go_roundw
    case measure=>simp[intOf];omega
    case rel=>exact⟨j+1,by omega,by go_num,HFS.out⟩
  ·have hjl:j=ps.length:=by omega
   subst hjl;obtain⟨fv,ys,hfv,hown,_⟩:=HFW.out.row;obtain⟨fa,fc,rfl⟩:=Q0 hown;have kT:wr.heap[w.heap.size+1+1]?=some (.cells #[.int .i64 k,.string word,.int .i64 0,.slice fa ps.length fc] 112):=hfv;have t0:=z6 kT 0;have t1:=z6 kT 1;have t2:=z6 kT 2;have t3:=z6 kT 3;have kR:=HFW.out.rbk;have r0:=z6 kR 0;have r1:=z6 kR 1;have r2:=z6 kR 2;have r3:=z6 kR 3;have f0:=Q8 kR 0;have f1:=Q8 kR 1;have f2:=Q8 kR 2;have f3:=Q8 kR 3;have KT:=q8 kT;clear hfv hown kT kR;go_wp2_with fail;refine bodyPost_ret (v:=.agg #[.int .i64 k,.string word,.int .i64 0,.slice fa ps.length fc]) (by simp[results,results73,go_sem,r0,r1,r2,r3]) rfl ?_;refine⟨k,word,0,fa,ps.length,fc,rfl,jc0 HLT.out HFW.out ?_ HK.out KT.out⟩;exact(((((q9.refl (fun q=>q=w.heap.size+1) wr).setCell (p:=⟨w.heap.size+1,0,none⟩) (fun _=>rfl) _).setCell (p:=⟨w.heap.size+1,1,none⟩) (fun _=>rfl) _).setCell (p:=⟨w.heap.size+1,2,none⟩) (fun _=>rfl) _).setCell (p:=⟨w.heap.size+1,3,none⟩) (fun _=>rfl) _)
theorem qq8{k v:Int}{w:ByteArray}{ps:List Nd}:ps.length<=(j9 (.mk k w v ps)).length:=by
 have h1:ps.length<=(Q9 ps).length:=by
  induction ps with
  | nil=>exact Nat.le_refl _
  | cons q qs ih=>simp only[Q9,List.length_cons,List.length_append];omega
 have h2:(Q9 ps).length<=(j9 (.mk k w v ps)).length:=by
  rw[j9];split
  ·simp only[List.length_cons,List.length_append];omega
  ·rename_i h;have:ps=[]:=by
    cases ps with
    | nil=>rfl
    | cons p ps=>exact absurd (Or.inr (Or.inr (by simp))) h
   subst this;simp[Q9]
 omega
theorem qQ8{k v:Int}{w:ByteArray}{ps:List Nd}{p:Nd}(hp:p∈ps):(j9 p).length<=(j9 (.mk k w v ps)).length:=by
 have h1:(j9 p).length<=(Q9 ps).length:=by
  induction ps with
  | nil=>exact absurd hp (by simp)
  | cons q qs ih=>
   simp only[Q9,List.length_cons,List.length_append];rcases List.mem_cons.1 hp with rfl|h
   ·omega
   ·have:=ih h;omega
 rw[j9,if_pos (Or.inr (Or.inr (by intro e;subst e;simp at hp)))];simp only[List.length_cons,List.length_append];omega
theorem qh1{sb:Nat}{nv:Value}:∀ {f:Nd},zk1 f->(j9 f).length<=1000000->js4 sb nv f:=by
 intro f hf
 induction hf with
 | @truth word hw=>
  intro _ w xs T A D k' wd' v' pa' pn' pc' hpn hDl hDT hps hl1 hl2;cases hpn with
  | @mk _ _ _ _ _ kids how hkl hkn hD hk=>obtain⟨a,cap,hv,_,_,hkid⟩:=zA6 how hkl hkn hD hk;cases hv;exact qQ7 hps (by decide) (fun t=>by cases t<;>rfl) (by simp[Z0];omega) (by simp[Z0];omega) (by simp) hkid hDl hDT (fun p hp=>absurd hp (by simp))
 | @con word ps hw hp ih=>
  intro hfl w xs T A D k' wd' v' pa' pn' pc' hpn hDl hDT hps hl1 hl2;cases hpn with
  | @mk _ _ _ _ _ kids how hkl hkn hD hk=>
   obtain⟨a,cap,hv,_,_,hkid⟩:=zA6 how hkl hkn hD hk;cases hv;have e:∀ t,J0 t (.mk 1 word 0 ps)=Z0 t ps:=by
    intro t;rw[J0,if_neg (by cases t<;>decide)]
    rfl
   rw[e] at hl1 hl2;have:=qq8 (k:=1) (v:=0) (w:=word) (ps:=ps);exact qQ7 hps (by decide) (fun t=>by cases t<;>rfl) hl1 hl2 (by omega) hkid hDl hDT (fun p hpp=>ih p hpp (by have:=qQ8 (k:=1) (v:=0) (w:=word) hpp;omega))
 | @two word a b hw ha hb=>intro _ w xs T A D k' wd' v' pa' pn' pc' hpn hDl hDT hps hl1 hl2;have hpn2:=hpn;cases hpn;exact qy6 (.two hw ha hb) ha hb (.inl rfl) hpn2 hDl hDT hps hl1 hl2
 | @le word a b v hw ha hb h1 h2=>intro _ w xs T A D k' wd' v' pa' pn' pc' hpn hDl hDT hps hl1 hl2;have hpn2:=hpn;cases hpn;exact qy6 (.le hw ha hb h1 h2) ha hb (.inr ⟨v,rfl,h1,h2⟩) hpn2 hDl hDT hps hl1 hl2
theorem row_len{w:World}{e size n:Nat}{v:Value}{xs:List Value}(h:w.ownsRow 0 e size v n xs):∃ a cap,v=.slice a n cap:=Q0 h
theorem zD5{w:World}{sb:Nat}{nv:Value}{xs:PX}{T A:List Nd}(h:PSt w sb nv xs T A):
  Calls prog 41 #[.pointer (some ⟨sb,1,none⟩)] w fun e w'=>e=.returned (.agg #[.int .i64 T.length,.int .i64 A.length])/\q9 (fun _=>False) w w':=by
 obtain⟨ta,tc,ht⟩:=Q0 h.ts.row.own;obtain⟨aa,ac,ha⟩:=Q0 h.ar.own;rw[Y3] at ht;rw[zn6] at ha;have kb:=h.ts.blk;rw[ht,ha] at kb;have hsb:=z8 kb;have c1:=z6 kb 1;have c3:=z6 kb 3;have hne:¬sb=w.heap.size:=by omega
 have HX:Hid (q9 (fun _=>False) w (w.alloc (.cells #[.int .i64 0,.int .i64 0] 103))):=(q9.refl _ w).alloc _;have kr:=heap_alloc_new w (.cells #[.int .i64 0,.int .i64 0] 103);have r0:=z6 kr 0;have r1:=z6 kr 1;have f0:=Q8 kr 0;have f1:=Q8 kr 1;clear h kb ht ha kr;go_enter func41,ntmps41;go_wp2_with fail
 go_region
 all_goals
  go_wp2_with fail;refine bodyPost_ret (v:=.agg #[.int .i64 T.length,.int .i64 A.length]) (by simp[results,results41,go_sem]) rfl ⟨rfl,?_⟩;exact((q9.refl _ w).alloc _).drew
theorem qF5(n m:Nat)(w:World)(hn:n<=100000000)(hm:m<=100000000):
  Calls prog 74 #[.agg #[.int .i64 n,.int .i64 m]] w fun e w'=>e=.returned (.int .i64 (if 12<n then 9 else if 16<m then 10 else 0))/\q9 (fun _=>False) w w':=by
 have HX:Hid (q9 (fun _=>False) w (w.alloc (.cells #[.int .i64 n,.int .i64 m] 103))):=(q9.refl _ w).alloc _;by_cases h1:12<n
 ·go_enter func74,ntmps74;go_wp2_with fail;go_ret;exact⟨rfl,HX.out⟩
 by_cases h2:16<m
 ·go_enter func74,ntmps74;go_wp2_with fail;go_ret;exact⟨rfl,HX.out⟩
 ·go_enter func74,ntmps74;go_wp2_with fail;go_ret;exact⟨rfl,HX.out⟩
theorem jc1{w w1 w2:World}{sb n m:Nat}{nv:Value}{xs:PX}{T A:List Nd}{tv' av':Value}(h:PSt w sb nv xs T A)(hac:AC (T.take n) (A.take m))(k1:w2.heap[sb]?=some (.cells #[nv,tv',xs.tm,av',xs.am,xs.fs,xs.ks,xs.vd,xs.ml] 98))(ht:zM1 w1 tv' xs.tm ((keys T).take n))(hE1:q9 (fun k=>k=sb\/xs.ts.ownBlock=some k\/U5 xs.tm=some k) w w1)(ho1:tv'.ownBlock=xs.ts.ownBlock)
  (ha:zG9 w2 av' xs.am ((keysA T A).take m)) (hE2:q9 (fun k=>k=sb\/xs.at_.ownBlock=some k\/U5 xs.am=some k) w1 w2) (ho2:av'.ownBlock=xs.at_.ownBlock):zj8 w sb nv xs (T.take n) (A.take m) w2:=by
 have htf:∀ k,TF sb { xs with ts:=tv',tm:=xs.tm,at_:=av',am:=xs.am } k->TF sb xs k:=by
  rintro k (e|e|e)
  ·exact .inl e
  ·exact .inr (.inl (ho1▸e))
  ·exact .inr (.inr e)
 refine⟨tv',xs.tm,av',xs.am,⟨⟨k1,?_,h.ts.cl.take n,h.ts.nd.sublist (List.take_sublist n T),fun k hk=>h.ts.s1 k (ho1▸hk),h.ts.s2⟩,?_,hac,h.nd.sublist (List.take_sublist m A),fun k hk=>h.s3 k (ho2▸hk),h.s4,fun k hk=>?_⟩,?_,?_⟩
 ·rw[qG5 h.ts.cl];refine ht.ext hE2 ?_ ?_
  ·rintro g hg (e|e|e)
   ·exact h.ts.s1 g (ho1▸hg) e
   ·exact(h.ap g (.inr (.inl (ho1▸hg)))).1 e
   ·exact(h.ap g (.inr (.inl (ho1▸hg)))).2 e
  ·rintro g hg (e|e|e)
   ·exact h.ts.s2 g hg e
   ·exact(h.ap g (.inr (.inr hg))).1 e
   ·exact(h.ap g (.inr (.inr hg))).2 e
 ·rw[qr9 m n hac];exact ha
 ·have:=h.ap k (htf k hk);exact⟨fun e=>this.1 (ho2▸e),this.2⟩
 ·exact(hE1.mono (fun _ _ e=>Or.inl e)).trans' hE2 (fun k _ e=>e.elim (fun e=>.inl (.inl e)) (fun e=>.inr e))
 ·rintro k (e|e|e)
  ·exact .inl (.inl (htf k e))
  ·exact .inl (.inr (.inl (ho2▸e)))
  ·exact .inl (.inr (.inr e))
theorem qh2{w:World}{sb n m:Nat}{nv:Value}{xs:PX}{T A:List Nd}(h:PSt w sb nv xs T A)(hn:n<=T.length)(hm:m<=A.length)(hl:T.length<=10000000)(hl2:A.length<=10000000)(hac:AC (T.take n) (A.take m)):
  Calls prog 44 #[.pointer (some ⟨sb,1,none⟩),.agg #[.int .i64 n,.int .i64 m]] w fun e w'=>e=.returned (.tuple #[])/\zj8 w sb nv xs (T.take n) (A.take m) w':=by
 have H:=q8 h;have HAC:=q8 hac;obtain⟨V,hV⟩:∃ V,w.alloc (.cells #[.int .i64 n,.int .i64 m] 103)=V:=⟨_,rfl⟩;have hxV:q9 (fun _=>False) w V:=by rw[<- hV];exact(q9.refl _ w).alloc _
 have kS:V.heap[w.heap.size]?=some (.cells #[.int .i64 n,.int .i64 m] 103):=by rw[<- hV];exact heap_alloc_new w _
 have hV2:=h.ext hxV.drew (fun _ _ f=>f);have HC:=q8 (qr5 n hV2.ts.blk hV2.ts.row hV2.ts.s1 hV2.ts.s2 (by rw[Y3];exact hl) (by rw[Y3];exact hn));have hlt:=h.lt;have HV:=q8 hV;have HXV:=q8 hxV;have KS:=q8 kS;have HLT:=q8 hlt;have hsb:=z8 h.ts.blk;clear h hac hxV hV2 hlt;have s0:=z6 kS 0;have s1:=z6 kS 1;clear kS hV;go_enter func44,ntmps44;go_wp2_with fail;rw[HV.out]
 go_region_law (go_simp;go_wp2_with (go_at_call 65;refine HC.out.mono ?_;rintro e w1 ⟨rfl,tv',k1,k2,k3,k4⟩;have KS1:Hid (w1.heap[w.heap.size]?=some (.cells #[.int .i64 n,.int .i64 m] 103)):=(k3.block _ (z8 KS.out) (fun hq=>by have:=HLT.out _ (Or.inl hq);omega)).trans KS.out;have s1':=z6 KS1.out 1;have K1:=q8 k1;have K2:=q8 k2;have K3:=q8 k3;have K4:=q8 k4;clear k1 k2 k3 k4))
 all_goals
  have har:zG9 w1.drew xs.at_ xs.am (keysA T A):=by
   refine(H.out.ar.ext (HXV.out.drew) (fun _ _ f=>f) (fun _ _ f=>f)).ext K3.out.drew ?_ ?_
   ·rintro g hg (e|e|e)
    ·exact H.out.s3 g hg e
    ·exact(H.out.ap g (.inr (.inl e))).1 hg
    ·exact(H.out.ap g (.inr (.inr e))).1 hg
   ·rintro g hg (e|e|e)
    ·exact H.out.s4 g hg e
    ·exact(H.out.ap g (.inr (.inl e))).2 hg
    ·exact(H.out.ap g (.inr (.inr e))).2 hg
  have HC2:=q8 (qr7 (xs := { xs with ts:=tv' }) (w:=w1.drew) m K1.out har H.out.s3 H.out.s4 (by rw[zn6];exact hl2) (by rw[zn6];exact hm));clear har;go_wp2_with fail
  go_region_law (go_simp;go_wp2_with (go_at_call 66;refine HC2.out.mono ?_;rintro e w2 ⟨rfl,av',q1,q2,q3,q4⟩;have Q1:=q8 q1;have Q2:=q8 q2;have Q3:=q8 q3;have Q4:=q8 q4;clear q1 q2 q3 q4))
  all_goals
   go_wp2_with fail
   go_end0
   refine⟨rfl,?_⟩;exact jc1 H.out HAC.out Q1.out K2.out ((HXV.out.drew.mono (fun _ _ f=>f.elim)).trans K3.out) K4.out Q2.out (((q9.refl _ w1).drew).trans Q3.out) Q4.out
def ze9(n m:Nat):Int:=if 12<n then 9 else if 16<m then 10 else 0
def qQ9(w:World)(sb:Nat)(nv:Value)(xs:PX)(T A:List Nd)(f:Nd)(e:Ending)(w':World):Prop :=
 ∃ T' A',U2 T T' (J0 true f)/\U2 A A' (J0 false f)/\∃ k wd i pa pn pc,e=.returned (.tuple #[.agg #[.int .i64 k,.string wd,.int .i64 i,.slice pa pn pc],.int .i64 (ze9 T'.length A'.length)])/\(ze9 T'.length A'.length=0->FT w' (fun q=>w.heap.size<=q) A' [.int .i64 k,.string wd,.int .i64 i,.slice pa pn pc] f) /\
  zj8 w sb nv xs (if ze9 T'.length A'.length=0 then T' else T) (if ze9 T'.length A'.length=0 then A' else A) w'
theorem qh3{T T':List Nd}(h:T <+:T'):T'.take T.length=T:=by obtain⟨r,rfl⟩:=h;simp
theorem zL7{w V w2 W:World}{sb:Nat}{nv:Value}{xs:PX}{T' A':List Nd}(hxV:q9 (fun _=>False) w V)(hlt:∀ k,PF sb xs k->k<w.heap.size)(h:zj8 V sb nv xs T' A' w2)(hW:q9 (fun k=>w.heap.size<=k/\k<V.heap.size) w2 W):zj8 w sb nv xs T' A' W:=by
 obtain⟨a,b,c,d,k1,k2,k3⟩:=h;refine⟨a,b,c,d,k1.ext hW (fun k hk e=>?_),((hxV.mono (fun _ _ f=>f.elim)).trans k2).trans' hW (fun k hk e=>by omega),fun k hk=>(k3 k hk).imp id (fun e=>by have:=hxV.size;omega)⟩;rcases k3 k hk with h|h
 ·have:=hlt k h;omega
 ·omega
theorem qh4{w w1 w2:World}{sb:Nat}{nv:Value}{xs:PX}{T' A':List Nd}{ts1 tm1 at1 am1:Value}(h1:q9 (PF sb xs) w w1)(h3:∀ k,PF sb { xs with ts:=ts1,tm:=tm1,at_:=at1,am:=am1 } k->PF sb xs k\/w.heap.size<=k)(h:zj8 w1 sb nv { xs with ts:=ts1,tm:=tm1,at_:=at1,am:=am1 } T' A' w2):zj8 w sb nv xs T' A' w2:=by
 obtain⟨a,b,c,d,k1,k2,k3⟩:=h;refine⟨a,b,c,d,k1,h1.trans' k2 (fun k hk e=>?_),fun k hk=>?_⟩
 ·rcases h3 k e with e|e
  ·exact e
  ·omega
 ·rcases k3 k hk with e|e
  ·exact h3 k e
  ·have:=h1.size;exact .inr (by omega)
theorem qF6{w:World}{sb:Nat}{nv:Value}{xs:PX}{T A:List Nd}{f:Nd}{D:Nat->Prop}{k':Int}{wd':ByteArray}{v':Int}{pa':Option Addr}{pn' pc':Nat}(hf:zk1 f)(hfl:(j9 f).length<=1000000)(hpn:PN w D [.int .i64 k',.string wd',.int .i64 v',.slice pa' pn' pc'] f)(hDl:∀ k,D k->k<w.heap.size)(hDT:∀ k,D k->¬PF sb xs k)(h:PSt w sb nv xs T A)(hT:T.length<=12)(hA:A.length<=16):
  Calls prog 48 #[.pointer (some ⟨sb,1,none⟩),.agg #[.int .i64 k',.string wd',.int .i64 v',.slice pa' pn' pc']] w (qQ9 w sb nv xs T A f):=by
 have hft:=qk5 hf true;have hff:=qk5 hf false;have HLT:=q8 h.lt;have H:=q8 h;have HF:=q8 hf;have HFL:=q8 hfl;have HPN:=q8 hpn;have HDL:=q8 hDl;have HDT:=q8 hDT;obtain⟨V1,hV1⟩:∃ V1,(w.alloc (.cells #[.int .i64 k',.string wd',.int .i64 v',.slice pa' pn' pc'] 115)).alloc (.cells #[.int .i64 0,.string ⟨#[]⟩,.int .i64 0,.slice none 0 0] 112)=V1:=⟨_,rfl⟩;have HX1:Hid (q9 (fun _=>False) w V1):=by rw[<- hV1];exact((q9.refl _ w).alloc _).alloc _
 have kN:V1.heap[w.heap.size]?=some (.cells #[.int .i64 k',.string wd',.int .i64 v',.slice pa' pn' pc'] 115):=by rw[<- hV1,heap_alloc_old _ _ (by simp)];exact heap_alloc_new w _
 have kR:V1.heap[w.heap.size+1]?=some (.cells #[.int .i64 0,.string ⟨#[]⟩,.int .i64 0,.slice none 0 0] 112):=by rw[<- hV1];exact heap_alloc2_new w _ _
 have hV1s:V1.heap.size=w.heap.size+2:=by rw[<- hV1];simp
 have HV1:=q8 hV1;have KN:=q8 kN;have KR:=q8 kR;have HC1:=q8 (zD5 (h.ext HX1.out (fun _ _ f=>f)));clear h hf hpn hDl hDT hV1 kN kR;go_enter func48,ntmps48;go_wp2_with fail;rw[HV1.out];refine HC1.out.mono ?_;rintro e w1 ⟨rfl,hx1⟩;have HXW1:=q8 hx1;obtain⟨V2,hV2⟩:∃ V2,w1.alloc (.cells #[.int .i64 T.length,.int .i64 A.length] 103)=V2:=⟨_,rfl⟩;have HX2:Hid (q9 (fun _=>False) w1 V2):=by rw[<- hV2];exact(q9.refl _ w1).alloc _
 have kZ:V2.heap[w1.heap.size]?=some (.cells #[.int .i64 T.length,.int .i64 A.length] 103):=by rw[<- hV2];exact heap_alloc_new w1 _
 have kN1:w1.heap[w.heap.size]?=some (.cells #[.int .i64 k',.string wd',.int .i64 v',.slice pa' pn' pc'] 115):=(hx1.block _ (z8 KN.out) (fun f=>f)).trans KN.out;have HV2:=q8 hV2;have KZ:=q8 kZ;have hs1:=hx1.size;have hV2s:V2.heap.size=w1.heap.size+1:=by rw[<- hV2];simp
 have n0:=z6 kN1 0;have n1:=z6 kN1 1;have n2:=z6 kN1 2;have n3:=z6 kN1 3;have HXA:Hid (q9 (fun _=>False) w V2):=(HX1.out.trans hx1).trans HX2.out;have hnl:w.heap.size<w1.heap.size:=by omega
 have hnw:¬w.heap.size=w1.heap.size:=by omega
 have hc2:=qh1 (sb:=sb) (nv:=nv) HF.out HFL.out V2 xs T A D k' wd' v' pa' pn' pc' (HPN.out.ext HXA.out (fun _ _ _ f=>f)) (fun k hd=>by have:=HDL.out k hd;omega) HDT.out (H.out.ext HXA.out (fun _ _ f=>f)) (by omega) (by omega);have HC2:=q8 hc2;have hx1':=q8 hx1;clear hx1 hV2 kZ kN1 HC1 hc2;go_wp2_with fail;rw[HV2.out];refine HC2.out.mono ?_;rintro e w2 ⟨rk,rw',ri,rpa,rpn,rpc,rfl,T2,A2,hT2,hA2,hft,ts2,tm2,at2,am2,k1,k2,k3⟩;have HFT:=q8 hft;clear hft;have hs2:=k2.size;obtain⟨V3,hV3⟩:∃ V3,w2.alloc (.cells #[.int .i64 rk,.string rw',.int .i64 ri,.slice rpa rpn rpc] 112)=V3:=⟨_,rfl⟩;have HX3:Hid (q9 (fun _=>False) w2 V3):=by rw[<- hV3];exact(q9.refl _ w2).alloc _
 have kF:V3.heap[w2.heap.size]?=some (.cells #[.int .i64 rk,.string rw',.int .i64 ri,.slice rpa rpn rpc] 112):=by rw[<- hV3];exact heap_alloc_new w2 _
 have hno:∀ q,w.heap.size<=q->q<V2.heap.size->¬PF sb xs q:=fun q h1 _ hq=>by have:=HLT.out q hq;omega
 have kR3:V3.heap[w.heap.size+1]?=some (.cells #[.int .i64 0,.string ⟨#[]⟩,.int .i64 0,.slice none 0 0] 112):=(HX3.out.block _ (by omega) (fun f=>f)).trans ((k2.block _ (by omega) (hno _ (by omega) (by omega))).trans (((hx1'.out.trans HX2.out).block _ (by omega) (fun f=>f)).trans KR.out));have kZ3:V3.heap[w1.heap.size]?=some (.cells #[.int .i64 T.length,.int .i64 A.length] 103):=(HX3.out.block _ (by omega) (fun f=>f)).trans ((k2.block _ (by omega) (hno _ (by omega) (by omega))).trans KZ.out);have HC3:=q8 (zD5 (k1.ext HX3.out (fun _ _ f=>f)));have HV3:=q8 hV3;have KF:=q8 kF;have KR3:=q8 kR3;have KZ3:=q8 kZ3;have HT2:=q8 hT2;have HA2:=q8 hA2;have K1:=q8 k1;have K2:=q8 k2;have K3:=q8 k3;have hlT:=hT2.len;have hlA:=hA2.len;have hs3:=HX3.out.size;clear hV3 kF kR3 kZ3 hT2 hA2 k1 k2 k3 hno n0 n1 n2 n3 HC2;go_wp2_with fail;rw[HV3.out];refine HC3.out.mono ?_;rintro e w3 ⟨rfl,hx3⟩;have HX3':=q8 hx3;have hs4:=hx3.size;clear hx3 HC3;go_wp2_with fail;refine(qF5 T2.length A2.length w3 (by omega) (by omega)).mono ?_;rintro e w4 ⟨rfl,hx4⟩;obtain⟨cd,hcd⟩:∃ cd,(if 12<T2.length then 9 else if 16<A2.length then 10 else 0:Int)=cd:=⟨_,rfl⟩;have HX4:Hid (q9 (fun _=>False) V3 w4):=HX3'.out.trans hx4;have hs5:=hx4.size;have kF4:=(HX4.out.block _ (z8 KF.out) (fun f=>f)).trans KF.out;have kR4:=(HX4.out.block _ (z8 KR3.out) (fun f=>f)).trans KR3.out;have kZ4:=(HX4.out.block _ (z8 KZ3.out) (fun f=>f)).trans KZ3.out;have HPS4:=q8 (K1.out.ext (HX3.out.trans HX4.out) (fun _ _ f=>f));have HCD:Hid (ze9 T2.length A2.length=cd):=hcd;rw[hcd];clear hx4 hcd;by_cases hc0:cd=0
 ·subst hc0;have f0:=z6 kF4 0;have f1:=z6 kF4 1;have f2:=z6 kF4 2;have f3:=z6 kF4 3;have r0:=z6 kR4 0;have r1:=z6 kR4 1;have r2:=z6 kR4 2;have r3:=z6 kR4 3;have g0:=Q8 kR4 0;have g1:=Q8 kR4 1;have g2:=Q8 kR4 2;have g3:=Q8 kR4 3;clear kF4 kR4 kZ4;go_wp2_with fail;refine bodyPost_ret (v:=.tuple #[.agg #[.int .i64 rk,.string rw',.int .i64 ri,.slice rpa rpn rpc],.int .i64 0]) (by simp[results,results48,go_sem,r0,r1,r2,r3]) rfl ?_;have hSS:w.heap.size<=w.heap.size+1/\w.heap.size+1<V2.heap.size:=⟨by omega,by omega⟩;refine⟨T2,A2,HT2.out,HA2.out,rk,rw',ri,rpa,rpn,rpc,by rw[HCD.out],fun _=>?_,?_⟩
  ·refine(((HFT.out.ext (HX3.out.trans HX4.out) (fun _ _ _ f=>f)).ext (S:=fun k=>w.heap.size<=k/\k<V2.heap.size) ?_ (fun k _ h1 h2=>by omega)).mono (fun k _ h1=>by omega));exact(((((q9.refl (fun k=>w.heap.size<=k/\k<V2.heap.size) w4).setCell (p:=⟨w.heap.size+1,0,none⟩) (fun _=>hSS) _).setCell (p:=⟨w.heap.size+1,1,none⟩) (fun _=>hSS) _).setCell (p:=⟨w.heap.size+1,2,none⟩) (fun _=>hSS) _).setCell (p:=⟨w.heap.size+1,3,none⟩) (fun _=>hSS) _)
  rw[HCD.out,if_pos rfl,if_pos rfl];refine zL7 HXA.out HLT.out ⟨ts2,tm2,at2,am2,HPS4.out,K2.out.trans ((HX3.out.trans HX4.out).mono (fun _ _ f=>f.elim)),K3.out⟩ ?_;exact(((((q9.refl (fun k=>w.heap.size<=k/\k<V2.heap.size) w4).setCell (p:=⟨w.heap.size+1,0,none⟩) (fun _=>hSS) _).setCell (p:=⟨w.heap.size+1,1,none⟩) (fun _=>hSS) _).setCell (p:=⟨w.heap.size+1,2,none⟩) (fun _=>hSS) _).setCell (p:=⟨w.heap.size+1,3,none⟩) (fun _=>hSS) _)
 ·have hc0':(cd==0)=false:=by simpa using hc0
  have z0:=z6 kZ4 0;have z1:=z6 kZ4 1;have hpt:T2.take T.length=T:=qh3 HT2.out.pre;have hpa:A2.take A.length=A:=qh3 HA2.out.pre;have hac:AC (T2.take T.length) (A2.take A.length):=by rw[hpt,hpa];exact H.out.ac
  have hc4:=qh2 (n:=T.length) (m:=A.length) HPS4.out HT2.out.pre.length_le HA2.out.pre.length_le (by omega) (by omega) hac;rw[hpt,hpa] at hc4;have HC4:=q8 hc4;have KR4:=q8 kR4;clear hc4 hpt hpa hac kF4 kR4 kZ4;go_wp2_with fail;refine HC4.out.mono ?_;rintro e w5 ⟨rfl,hap⟩;have hap2:=qh4 (K2.out.trans ((HX3.out.trans HX4.out).mono (fun _ _ f=>f.elim))) K3.out hap;obtain⟨q1,q2,q3,q4,j1,j2,j3⟩:=hap2;have kR5:w5.heap[w.heap.size+1]?=some (.cells #[.int .i64 0,.string ⟨#[]⟩,.int .i64 0,.slice none 0 0] 112):=(j2.block _ (by omega) (fun hq=>by have:=HLT.out _ hq;omega)).trans (((hx1'.out.trans HX2.out).block _ (by omega) (fun f=>f)).trans KR.out);have r0:=z6 kR5 0;have r1:=z6 kR5 1;have r2:=z6 kR5 2;have r3:=z6 kR5 3;have g0:=Q8 kR5 0;have g1:=Q8 kR5 1;have g2:=Q8 kR5 2;have g3:=Q8 kR5 3;have J1:=q8 j1;have J2:=q8 j2;have J3:=q8 j3;clear hap j1 j2 j3 kR5 z0 z1;go_wp2_with fail;refine bodyPost_ret (v:=.tuple #[.agg #[.int .i64 0,.string ⟨#[]⟩,.int .i64 0,.slice none 0 0],.int .i64 cd]) (by simp[results,results48,go_sem,r0,r1,r2,r3]) rfl ?_;refine⟨T2,A2,HT2.out,HA2.out,0,⟨#[]⟩,0,none,0,0,by rw[HCD.out],fun e=>absurd (HCD.out.symm.trans e) hc0,?_⟩;rw[HCD.out,if_neg hc0,if_neg hc0];have hSS:w.heap.size<=w.heap.size+1/\w.heap.size+1<V2.heap.size:=⟨by omega,by omega⟩;refine zL7 HXA.out HLT.out ⟨q1,q2,q3,q4,J1.out,J2.out,J3.out⟩ ?_;exact(((((q9.refl (fun k=>w.heap.size<=k/\k<V2.heap.size) w5).setCell (p:=⟨w.heap.size+1,0,none⟩) (fun _=>hSS) _).setCell (p:=⟨w.heap.size+1,1,none⟩) (fun _=>hSS) _).setCell (p:=⟨w.heap.size+1,2,none⟩) (fun _=>hSS) _).setCell (p:=⟨w.heap.size+1,3,none⟩) (fun _=>hSS) _)
structure Fr4 where
 n:Nat
 t:Nat
 a:Nat
 f:Nat
def y9(K:List Fr4):List Value:=K.flatMap (fun x=>[.int .i64 x.n,.int .i64 x.t,.int .i64 x.a,.int .i64 x.f])
theorem zA3(K:List Fr4)(x:Fr4):y9 (K++[x])=y9 K++[.int .i64 x.n,.int .i64 x.t,.int .i64 x.a,.int .i64 x.f]:=by simp[y9]
theorem zl3(K:List Fr4):(y9 K).length=K.length*4:=by
 induction K with
 | nil=>rfl
 | cons a b ih=>simp only[y9,List.flatMap_cons,List.length_append] at ih ⊢;simp at ih ⊢;omega
structure PSS(w:World)(sb:Nat)(N:List Nm)(nv:Value)(xs:PX)(T A:List Nd)(Y:List (List Value))(K:List Fr4):Prop where
 p:PSt w sb nv xs T A
 nown:w.ownsRow 0 142 2 nv N.length (X2 N)
 few:N.length<=20
 ok:∀ x∈N,0<=x.ar/\x.ar<=3
 fown:w.ownsRow 0 112 4 xs.fs Y.length Y.flatten/\∀ cs∈Y,cs.length=4
 kown:w.ownsRow 0 106 4 xs.ks K.length (y9 K)
 ffew:Y.length<=20
 kfew:K.length<=20
 tfew:T.length<=12
 afew:A.length<=16
 n1:∀ k,nv.ownBlock=some k->¬PF sb xs k/\¬xs.fs.ownBlock=some k/\¬xs.ks.ownBlock=some k
 f1:∀ k,xs.fs.ownBlock=some k->¬PF sb xs k/\¬xs.ks.ownBlock=some k
 k1:∀ k,xs.ks.ownBlock=some k->¬PF sb xs k
def SF(sb:Nat)(nv:Value)(xs:PX)(k:Nat):Prop:=PF sb xs k\/nv.ownBlock=some k\/xs.fs.ownBlock=some k\/xs.ks.ownBlock=some k
theorem PSS.lt{w:World}{sb:Nat}{N:List Nm}{nv:Value}{xs:PX}{T A:List Nd}{Y:List (List Value)}{K:List Fr4}(h:PSS w sb N nv xs T A Y K):∀ k,SF sb nv xs k->k<w.heap.size:=by
 obtain⟨hf,hfl⟩:=h.fown;rintro k (e|e|e|e)
 ·exact h.p.lt k e
 ·exact(h.nown.lt k e).2
 ·exact(hf.lt k e).2
 ·exact(h.kown.lt k e).2
theorem PSS.ext{S:Nat->Prop}{w w':World}{sb:Nat}{N:List Nm}{nv:Value}{xs:PX}{T A:List Nd}{Y:List (List Value)}{K:List Fr4}(h:PSS w sb N nv xs T A Y K)(hx:q9 S w w')(hS:∀ k,SF sb nv xs k->¬S k):PSS w' sb N nv xs T A Y K:=by obtain⟨hf,hfl⟩:=h.fown;exact⟨h.p.ext hx (fun k hk=>hS k (.inl hk)),z7 h.nown hx (fun k hk=>hS k (.inr (.inl hk))),h.few,h.ok,⟨z7 hf hx (fun k hk=>hS k (.inr (.inr (.inl hk)))),hfl⟩,z7 h.kown hx (fun k hk=>hS k (.inr (.inr (.inr hk)))),h.ffew,h.kfew,h.tfew,h.afew,h.n1,h.f1,h.k1⟩
theorem PSS.sb_n{w:World}{sb:Nat}{N:List Nm}{nv:Value}{xs:PX}{T A:List Nd}{Y:List (List Value)}{K:List Fr4}(h:PSS w sb N nv xs T A Y K):∀ g,nv.ownBlock=some g->¬g=sb:=fun g hg e=>(h.n1 g hg).1 (.inl (.inl e))
theorem PSS.ps{w:World}{sb:Nat}{N:List Nm}{nv:Value}{xs:PX}{T A:List Nd}{Y:List (List Value)}{K:List Fr4}(h:PSS w sb N nv xs T A Y K):PS w sb N nv xs:=⟨h.p.ts.blk,h.nown,h.sb_n,h.few,h.ok⟩
theorem qq9{w:World}{sb:Nat}{N:List Nm}{nv:Value}(hc:w.cell? ⟨sb,0,none⟩=some nv)(hown:w.ownsRow 0 142 2 nv N.length (X2 N)):
  Calls prog 40 #[.pointer (some ⟨sb,0,none⟩)] w fun e w'=>e=.returned (.int .i64 N.length)/\w' = w:=by
 obtain⟨a,c,rfl⟩:=Q0 hown;clear hown;go_enter func40,ntmps40;go_wp2_with fail;go_ret;exact⟨rfl,rfl⟩
theorem qF7:(prog.info? 106).map (fun i=>(i.zero,i.size,i.bytes))=some (some (.agg #[.int .i64 0,.int .i64 0,.int .i64 0,.int .i64 0]),4,32):=by kernel_rfl
def ze4(w:World)(sb:Nat)(nv:Value)(xs:PX)(N':List Nm)(T' A':List Nd)(Y':List (List Value))(K':List Fr4)(w':World):Prop :=
 q9 (SF sb nv xs) w w'/\∃ nv' xs',PSS w' sb N' nv' xs' T' A' Y' K'/\(∀ k,SF sb nv' xs' k->SF sb nv xs k\/w.heap.size<=k)
theorem PSS.turn{w w':World}{sb:Nat}{N:List Nm}{nv:Value}{xs:PX}{T A:List Nd}{Y:List (List Value)}{K:List Fr4}(h:PSS w sb N nv xs T A Y K)(vd ml:Value)(hx:q9 (fun k=>k=sb) w w')(kb:w'.heap[sb]?=some (.cells #[nv,xs.ts,xs.tm,xs.at_,xs.am,xs.fs,xs.ks,vd,ml] 98)):PSS w' sb N nv { xs with vd:=vd,ml:=ml } T A Y K:=by obtain⟨hf,hfl⟩:=h.fown;exact⟨⟨⟨kb,h.p.ts.row.ext hx h.p.ts.s1 h.p.ts.s2,h.p.ts.cl,h.p.ts.nd,h.p.ts.s1,h.p.ts.s2⟩,h.p.ar.ext hx h.p.s3 h.p.s4,h.p.ac,h.p.nd,h.p.s3,h.p.s4,h.p.ap⟩,z7 h.nown hx h.sb_n,h.few,h.ok,⟨z7 hf hx (fun q hq e=>(h.f1 q hq).1 (.inl (.inl e))),hfl⟩,z7 h.kown hx (fun q hq e=>h.k1 q hq (.inl (.inl e))),h.ffew,h.kfew,h.tfew,h.afew,h.n1,h.f1,h.k1⟩
theorem zA4{w w1:World}{sb:Nat}{nv:Value}{xs:PX}{N':List Nm}{T' A':List Nd}{Y':List (List Value)}{K':List Fr4}(h:ze4 w sb nv xs N' T' A' Y' K' w1):
  Calls prog 42 #[.pointer (some ⟨sb,0,none⟩)] w1 fun e w'=>e=.returned (.tuple #[])/\ze4 w sb nv xs N' T' A' Y' K' w':=by
 obtain⟨hx,nv',xs',hP,hF⟩:=h;refine(zR4 hP.p.ts.blk).mono ?_;rintro e w2 ⟨rfl,hx2,kb2⟩;exact⟨rfl,hx.trans' hx2 (fun _ _ e=>.inl (.inl (.inl e))),nv',{ xs' with vd:=.int .i64 0,ml:=.map none },hP.turn _ _ hx2 kb2,hF⟩
theorem qF8{w w0 w2:World}{sb g cap':Nat}{N:List Nm}{nv:Value}{xs:PX}{T A:List Nd}{Y:List (List Value)}{K:List Fr4}(h:PSS w sb N nv xs T A Y K)(hk:K.length<20)(h0:q9 (fun _=>False) w w0)(hgrow:w0.grownBy w2 xs.ks.ownBlock)(hown:w2.ownsRow 0 106 4 (.slice (some ⟨g,0,none⟩) (K.length+1) cap') (K.length+1) (y9 K++[.int .i64 N.length,.int .i64 T.length,.int .i64 A.length,.int .i64 Y.length]))
  (hat:xs.ks.ownBlock=some g\/w.heap.size<=g):ze4 w sb nv xs N T A Y (K++[⟨N.length,T.length,A.length,Y.length⟩]) (w2.setCell ⟨sb,6,none⟩ (.slice (some ⟨g,0,none⟩) (K.length+1) cap')):=by
 have hsb:=z8 h.p.ts.blk;have hltP:=h.p.lt;have hlt:=h.lt;have s0:=h0.size;have h2:q9 (fun k=>xs.ks.ownBlock=some k) w w2:=(h0.mono (fun _ _ f=>f.elim)).grown hgrow (fun k hk _=>hk);have hW:q9 (fun k=>k=sb) w2 (w2.setCell ⟨sb,6,none⟩ (.slice (some ⟨g,0,none⟩) (K.length+1) cap')):=(q9.refl (fun k=>k=sb) w2).setCell (p:=⟨sb,6,none⟩) (fun _=>rfl) _;have hxw:q9 (fun k=>k=sb\/xs.ks.ownBlock=some k) w (w2.setCell ⟨sb,6,none⟩ (.slice (some ⟨g,0,none⟩) (K.length+1) cap')):=(h2.mono (fun _ _ e=>.inr e)).trans' hW (fun _ _ e=>.inl e);have hks:∀ k,xs.ks.ownBlock=some k->¬k=sb:=fun k hk e=>h.k1 k hk (.inl (.inl e))
 have hg:∀ k,SF sb nv xs k->¬xs.ks.ownBlock=some k->¬k=g:=by
  intro k hk hn e;rcases hat with e2|e2
  ·exact hn (e▸e2)
  ·have:=hlt k hk;omega
 have hgs:¬g=sb:=fun e=>hg sb (.inl (.inl (.inl rfl))) (fun e2=>hks sb e2 rfl) e.symm
 have kb2:w2.heap[sb]?=some (.cells #[nv,xs.ts,xs.tm,xs.at_,xs.am,xs.fs,xs.ks,xs.vd,xs.ml] 98):=(h2.block sb hsb (fun e=>hks sb e rfl)).trans h.p.ts.blk;obtain⟨hf,hfl⟩:=h.fown;refine⟨hxw.mono (fun k _ e=>e.elim (fun e=>.inl (.inl (.inl e))) (fun e=>.inr (.inr (.inr e)))),nv,{ xs with ks:=.slice (some ⟨g,0,none⟩) (K.length+1) cap' },⟨⟨⟨Y4 kb2 6 _,?_,h.p.ts.cl,h.p.ts.nd,h.p.ts.s1,h.p.ts.s2⟩,?_,h.p.ac,h.p.nd,h.p.s3,h.p.s4,h.p.ap⟩,?_,h.few,h.ok,⟨?_,hfl⟩,?_,h.ffew,by simp;omega,h.tfew,h.afew,?_,?_,?_⟩,?_⟩
 ·refine h.p.ts.row.ext hxw ?_ ?_
  ·rintro q hq (e|e)
   ·exact h.p.ts.s1 q hq e
   ·exact h.k1 q e (.inl (.inr (.inl hq)))
  ·rintro q hq (e|e)
   ·exact h.p.ts.s2 q hq e
   ·exact h.k1 q e (.inl (.inr (.inr hq)))
 ·refine h.p.ar.ext hxw ?_ ?_
  ·rintro q hq (e|e)
   ·exact h.p.s3 q hq e
   ·exact h.k1 q e (.inr (.inl hq))
  ·rintro q hq (e|e)
   ·exact h.p.s4 q hq e
   ·exact h.k1 q e (.inr (.inr hq))
 ·exact z7 h.nown hxw (fun q hq e=>e.elim (h.sb_n q hq) (fun e=>(h.n1 q hq).2.2 e))
 ·exact z7 hf hxw (fun q hq e=>e.elim (fun e=>(h.f1 q hq).1 (.inl (.inl e))) (fun e=>(h.f1 q hq).2 e))
 ·rw[zA3,List.length_append];exact z7 hown hW (fun q hq e=>by simp[Value.ownBlock] at hq;omega)
 ·intro q hq;exact⟨(h.n1 q hq).1,(h.n1 q hq).2.1,fun e=>hg q (.inr (.inl hq)) (h.n1 q hq).2.2 (by simp[Value.ownBlock] at e;exact e.symm)⟩
 ·intro q hq;exact⟨(h.f1 q hq).1,fun e=>hg q (.inr (.inr (.inl hq))) (h.f1 q hq).2 (by simp[Value.ownBlock] at e;exact e.symm)⟩
 ·intro q hq hpf;simp[Value.ownBlock] at hq;subst hq;exact hg g (.inl hpf) (fun e=>h.k1 g e hpf) rfl
 ·rintro q (e|e|e|e)
  ·exact .inl (.inl e)
  ·exact .inl (.inr (.inl e))
  ·exact .inl (.inr (.inr (.inl e)))
  ·simp[Value.ownBlock] at e;subst e;exact hat.imp (fun e=>.inr (.inr (.inr e))) id
theorem jo4{w:World}{sb:Nat}{N:List Nm}{nv:Value}{xs:PX}{T A:List Nd}{Y:List (List Value)}{K:List Fr4}(h:PSS w sb N nv xs T A Y K)(hk:K.length<20):
  Calls prog 18 #[.pointer (some ⟨sb,0,none⟩)] w fun e w'=>e=.returned (.int .i64 0)/\ze4 w sb nv xs N T A Y (K++[⟨N.length,T.length,A.length,Y.length⟩]) w':=by
 obtain⟨hf,hfl⟩:=h.fown;obtain⟨fa,fc,e1⟩:=Q0 hf;obtain⟨ka,kc,e2⟩:=Q0 h.kown;obtain⟨ts,tm,at_,am,fs,ks,vd,ml⟩:=xs;simp only at e1 e2;subst e1 e2;have kb:=h.p.ts.blk;have c0:=z6 kb 0;have c5:=z6 kb 5;have c6:=z6 kb 6;have hff:=h.ffew;have hnf:=h.few;have htf:=h.tfew;have haf:=h.afew;have hsb:=z8 kb;have H:=q8 h;have KB:=q8 kb;obtain⟨i0,hi,hz0,hz1,hz2⟩:=info_parts qF7;clear h hf kb;go_enter func18,ntmps18;go_wp2_with fail;have HCN:Hid (∀ W:World,W.heap[sb]?=some (.cells #[nv,ts,tm,at_,am,.slice fa Y.length fc,.slice ka K.length kc,vd,ml] 98)->(∀ k,nv.ownBlock=some k->W.heap[k]?=w.heap[k]?)->Calls prog 40 #[.pointer (some ⟨sb,0,none⟩)] W fun e w'=>e=.returned (.int .i64 N.length)/\w' = W):=by
  intro W hW hN;refine qq9 (N:=N) (z6 hW 0) ?_;refine⟨H.out.nown.1,?_⟩;rcases H.out.nown.2 with e|⟨g,cap,cur,hv,h1,hh,r⟩
  ·exact .inl e
  ·exact .inr ⟨g,cap,cur,hv,h1,(hN g (by rw[hv];rfl)).trans hh,r⟩
 go_region_law (first|(refine step_append_lies _ (by rfl) _ _ _ (by rfl) 0 106 i0 _ 4 32 underlying90 hi hz0 hz1 hz2 rfl (by omega) (.slice ka K.length kc) K.length (y9 K) (by rfl) (HO2.out.alloc _) ⟨w2.heap.size,0,none⟩ 1 1 [.int .i64 N.length,.int .i64 T.length,.int .i64 A.length,.int .i64 Y.length] (by rfl) (by rfl) (World.news_of_block (cs:=#[.int .i64 N.length,.int .i64 T.length,.int .i64 A.length,.int .i64 Y.length]) (t:=106) (fr:=(0,0)) (heap_alloc_new w2 _)) (by simp[Value.oneCell']) (by omega) (by unfold maxLen;omega) (by omega) (Nat.zero_le _) (w2.heap.size+1) (by simp) ?_;intro g cap' w3 hown3 hgrow hat hlt3;have kb3:w3.heap[sb]?=some (.cells #[nv,ts,tm,at_,am,.slice fa Y.length fc,.slice ka K.length kc,vd,ml] 98):=(hgrow.block sb (by simp;omega) (fun e=>H.out.k1 sb e.symm (.inl (.inl rfl)))).trans ((Below.heap_alloc w2 _ sb hl2).trans KB2.out);have d6:=z6 kb3 6;have d6f:=Q8 kb3 6)|(go_simp;go_wp2_with (first|(go_at_call 40;refine(HCN.out w.drew KB.out (fun _ _=>rfl)).mono ?_;rintro e w' ⟨rfl,hw⟩;rw[hw];clear hw w')|(go_at_call 41;refine(zD5 (H.out.p.ext ((q9.refl (fun _=>False) w).drew) (fun _ _ f=>f))).mono ?_;rintro e w2 ⟨rfl,hx2⟩;have HX2:Hid (q9 (fun _=>False) w w2):=((q9.refl (fun _=>False) w).drew).trans hx2;have KB2:=q8 ((HX2.out.block sb hsb (fun f=>f)).trans KB.out);have hl2:=z8 KB2.out;have hne2:¬sb=w2.heap.size:=(by omega);have d5:=z6 KB2.out 5;have d66:=z6 KB2.out 6;have HO2:=q8 (z7 H.out.kown HX2.out (fun _ _ f=>f));clear hx2))))
 all_goals
  have HSP:=q8 (qF8 H.out hk (w0:=w2.alloc _) (HX2.out.alloc _) hgrow hown3 (hat.imp id (fun e=>by have:=HX2.out.size;omega)));go_wp2_with fail;refine(zA4 HSP.out).mono ?_;rintro e w9 ⟨rfl,h9⟩;have H9:=q8 h9;clear h9;go_wp2_with fail;go_ret;exact⟨rfl,H9.out⟩
def zm1(w:World)(sb:Nat)(nv:Value)(xs:PX)(nv':Value)(xs':PX)(w':World):Prop:=q9 (SF sb nv xs) w w'/\(∀ k,SF sb nv' xs' k->SF sb nv xs k\/w.heap.size<=k)
theorem zm1.trans{w w1 w2:World}{sb:Nat}{nv nv1 nv2:Value}{xs xs1 xs2:PX}(h:zm1 w sb nv xs nv1 xs1 w1)(k:zm1 w1 sb nv1 xs1 nv2 xs2 w2):zm1 w sb nv xs nv2 xs2 w2:=by
 refine⟨h.1.trans' k.1 (fun i hi e=>(h.2 i e).elim id (fun e=>by omega)),fun q hq=>?_⟩;rcases k.2 q hq with e|e
 ·exact h.2 q e
 ·have:=h.1.size;exact .inr (by omega)
theorem zm1.ext{w w1 w2:World}{sb:Nat}{nv nv1:Value}{xs xs1:PX}(h:zm1 w sb nv xs nv1 xs1 w1)(hx:q9 (fun _=>False) w1 w2):zm1 w sb nv xs nv1 xs1 w2:=⟨h.1.trans (hx.mono (fun _ _ f=>f.elim)),h.2⟩
theorem zm1.of_ext{w w1 w2:World}{sb:Nat}{nv nv1:Value}{xs xs1:PX}(hx:q9 (fun _=>False) w w1)(h:zm1 w1 sb nv xs nv1 xs1 w2):zm1 w sb nv xs nv1 xs1 w2:=⟨(hx.mono (fun _ _ f=>f.elim)).trans h.1,fun k hk=>(h.2 k hk).imp id (fun e=>Nat.le_trans hx.size e)⟩
section
variable{w w':World}{sb:Nat}{N N':List Nm}{nv nv':Value}{xs:PX}{T A T' A':List Nd}{Y Y':List (List Value)}{K K':List Fr4}
theorem zx5{vd ml:Value}(h:PSS w sb N nv xs T A Y K)(kb:w'.heap[sb]?=some (.cells #[nv',xs.ts,xs.tm,xs.at_,xs.am,xs.fs,xs.ks,vd,ml] 98))(hown:w'.ownsRow 0 142 2 nv' N'.length (X2 N'))(hfew:N'.length<=20)(hok:∀ x∈N',0<=x.ar/\x.ar<=3)(hE:q9 (fun k=>k=sb\/nv.ownBlock=some k) w w')(hat:∀ k,nv'.ownBlock=some k->nv.ownBlock=some k\/w.heap.size<=k):PSS w' sb N' nv' { xs with vd:=vd,ml:=ml } T A Y K/\zm1 w sb nv xs nv' { xs with vd:=vd,ml:=ml } w':=by
 obtain⟨hf,hfl⟩:=h.fown;have hlt:=h.lt;have hpf:∀ k,PF sb xs k->¬nv.ownBlock=some k:=fun k hk e=>(h.n1 k e).1 hk
 have hno:∀ k,SF sb nv xs k->¬k=sb->¬nv.ownBlock=some k->¬(k=sb\/nv.ownBlock=some k):=fun k _ h1 h2 e=>e.elim h1 h2
 have hnew:∀ k,SF sb nv xs k->¬nv.ownBlock=some k->¬nv'.ownBlock=some k:=by
  intro k hk h1 e;rcases hat k e with e2|e2
  ·exact h1 e2
  ·have:=hlt k hk;omega
 refine⟨⟨⟨⟨kb,?_,h.p.ts.cl,h.p.ts.nd,h.p.ts.s1,h.p.ts.s2⟩,?_,h.p.ac,h.p.nd,h.p.s3,h.p.s4,h.p.ap⟩,hown,hfew,hok,⟨?_,hfl⟩,?_,h.ffew,h.kfew,h.tfew,h.afew,?_,h.f1,h.k1⟩,?_,?_⟩
 ·exact h.p.ts.row.ext hE (fun q hq=>hno q (.inl (.inl (.inr (.inl hq)))) (h.p.ts.s1 q hq) (hpf q (.inl (.inr (.inl hq))))) (fun q hq=>hno q (.inl (.inl (.inr (.inr hq)))) (h.p.ts.s2 q hq) (hpf q (.inl (.inr (.inr hq)))))
 ·exact h.p.ar.ext hE (fun q hq=>hno q (.inl (.inr (.inl hq))) (h.p.s3 q hq) (hpf q (.inr (.inl hq)))) (fun q hq=>hno q (.inl (.inr (.inr hq))) (h.p.s4 q hq) (hpf q (.inr (.inr hq))))
 ·exact z7 hf hE (fun q hq=>hno q (.inr (.inr (.inl hq))) (fun e=>(h.f1 q hq).1 (.inl (.inl e))) (fun e=>(h.n1 q e).2.1 hq))
 ·exact z7 h.kown hE (fun q hq=>hno q (.inr (.inr (.inr hq))) (fun e=>h.k1 q hq (.inl (.inl e))) (fun e=>(h.n1 q e).2.2 hq))
 ·intro k hk;refine⟨fun e=>hnew k (.inl e) (hpf k e) hk,fun e=>hnew k (.inr (.inr (.inl e))) (fun e2=>(h.n1 k e2).2.1 e) hk,fun e=>hnew k (.inr (.inr (.inr e))) (fun e2=>(h.n1 k e2).2.2 e) hk⟩
 ·exact hE.mono (fun k _ e=>e.elim (fun e=>.inl (.inl (.inl e))) (fun e=>.inr (.inl e)))
 ·rintro k (e|e|e|e)
  ·exact .inl (.inl e)
  ·exact(hat k e).imp (fun e=>.inr (.inl e)) id
  ·exact .inl (.inr (.inr (.inl e)))
  ·exact .inl (.inr (.inr (.inr e)))
theorem qF9(h:PSS w sb N nv xs T A Y K)(kb:w'.heap[sb]?=some (.cells #[nv',xs.ts,xs.tm,xs.at_,xs.am,xs.fs,xs.ks,xs.vd,xs.ml] 98))(hown:w'.ownsRow 0 142 2 nv' N'.length (X2 N'))(hfew:N'.length<=20)(hok:∀ x∈N',0<=x.ar/\x.ar<=3)(hE:q9 (fun k=>k=sb\/nv.ownBlock=some k) w w')(hat:∀ k,nv'.ownBlock=some k->nv.ownBlock=some k\/w.heap.size<=k):PSS w' sb N' nv' xs T A Y K/\zm1 w sb nv xs nv' xs w':=zx5 h kb hown hfew hok hE hat
theorem qh5(h:PSS w sb N nv xs T A Y K)(hap:zj8 w sb nv xs T' A' w')(ht:T'.length<=12)(ha:A'.length<=16):∃ xs',PSS w' sb N nv xs' T' A' Y K/\xs'.fs=xs.fs/\xs'.ks=xs.ks/\zm1 w sb nv xs nv xs' w':=by
 obtain⟨ts',tm',at',am',k1,k2,k3⟩:=hap;obtain⟨hf,hfl⟩:=h.fown;have hlt:=h.lt;have hnp:∀ k,SF sb nv xs k->¬PF sb xs k->¬PF sb { xs with ts:=ts',tm:=tm',at_:=at',am:=am' } k:=by
  intro k hk h1 e;rcases k3 k e with e2|e2
  ·exact h1 e2
  ·have:=hlt k hk;omega
 refine⟨{ xs with ts:=ts',tm:=tm',at_:=at',am:=am' },⟨k1,z7 h.nown k2 (fun q hq=>(h.n1 q hq).1),h.few,h.ok,⟨z7 hf k2 (fun q hq=>(h.f1 q hq).1),hfl⟩,z7 h.kown k2 (fun q hq=>h.k1 q hq),h.ffew,h.kfew,ht,ha,fun k hk=>⟨hnp k (.inr (.inl hk)) (h.n1 k hk).1,(h.n1 k hk).2.1,(h.n1 k hk).2.2⟩,fun k hk=>⟨hnp k (.inr (.inr (.inl hk))) (h.f1 k hk).1,(h.f1 k hk).2⟩,fun k hk=>hnp k (.inr (.inr (.inr hk))) (h.k1 k hk)⟩,rfl,rfl,k2.mono (fun _ _ e=>.inl e),?_⟩;rintro k (e|e|e|e)
 ·exact(k3 k e).imp .inl id
 ·exact .inl (.inr (.inl e))
 ·exact .inl (.inr (.inr (.inl e)))
 ·exact .inl (.inr (.inr (.inr e)))
theorem qy7{fv':Value}(h:PSS w sb N nv xs T A Y K)(kb:w'.heap[sb]?=some (.cells #[nv,xs.ts,xs.tm,xs.at_,xs.am,fv',xs.ks,xs.vd,xs.ml] 98))(hown:w'.ownsRow 0 112 4 fv' Y'.length Y'.flatten)(hfl:∀ cs∈Y',cs.length=4)(hfew:Y'.length<=20)(hE:q9 (fun k=>k=sb\/xs.fs.ownBlock=some k) w w')(hat:∀ k,fv'.ownBlock=some k->xs.fs.ownBlock=some k\/w.heap.size<=k):PSS w' sb N nv { xs with fs:=fv' } T A Y' K/\zm1 w sb nv xs nv { xs with fs:=fv' } w':=by
 have hlt:=h.lt;have hpf:∀ k,PF sb xs k->¬xs.fs.ownBlock=some k:=fun k hk e=>(h.f1 k e).1 hk
 have hnew:∀ k,SF sb nv xs k->¬xs.fs.ownBlock=some k->¬fv'.ownBlock=some k:=by
  intro k hk h1 e;rcases hat k e with e2|e2
  ·exact h1 e2
  ·have:=hlt k hk;omega
 refine⟨⟨⟨⟨kb,?_,h.p.ts.cl,h.p.ts.nd,h.p.ts.s1,h.p.ts.s2⟩,?_,h.p.ac,h.p.nd,h.p.s3,h.p.s4,h.p.ap⟩,?_,h.few,h.ok,⟨hown,hfl⟩,?_,hfew,h.kfew,h.tfew,h.afew,?_,?_,h.k1⟩,?_,?_⟩
 ·exact h.p.ts.row.ext hE (fun q hq e=>e.elim (h.p.ts.s1 q hq) (hpf q (.inl (.inr (.inl hq))))) (fun q hq e=>e.elim (h.p.ts.s2 q hq) (hpf q (.inl (.inr (.inr hq)))))
 ·exact h.p.ar.ext hE (fun q hq e=>e.elim (h.p.s3 q hq) (hpf q (.inr (.inl hq)))) (fun q hq e=>e.elim (h.p.s4 q hq) (hpf q (.inr (.inr hq))))
 ·exact z7 h.nown hE (fun q hq e=>e.elim (h.sb_n q hq) (h.n1 q hq).2.1)
 ·exact z7 h.kown hE (fun q hq e=>e.elim (fun e=>h.k1 q hq (.inl (.inl e))) (fun e=>(h.f1 q e).2 hq))
 ·exact fun k hk=>⟨(h.n1 k hk).1,fun e=>hnew k (.inr (.inl hk)) (h.n1 k hk).2.1 e,(h.n1 k hk).2.2⟩
 ·intro k hk;exact⟨fun e=>hnew k (.inl e) (hpf k e) hk,fun e=>hnew k (.inr (.inr (.inr e))) (fun e2=>(h.f1 k e2).2 e) hk⟩
 ·exact hE.mono (fun k _ e=>e.elim (fun e=>.inl (.inl (.inl e))) (fun e=>.inr (.inr (.inl e))))
 ·rintro k (e|e|e|e)
  ·exact .inl (.inl e)
  ·exact .inl (.inr (.inl e))
  ·exact(hat k e).imp (fun e=>.inr (.inr (.inl e))) id
  ·exact .inl (.inr (.inr (.inr e)))
theorem qr0{ka:Option Addr}{kc m:Nat}(h:PSS w sb N nv xs T A Y K)(hks:xs.ks=.slice ka K.length kc)(hm:m<=K.length)(hE:q9 (fun k=>k=sb) w w')(kb:w'.heap[sb]?=some (.cells #[nv,xs.ts,xs.tm,xs.at_,xs.am,xs.fs,.slice ka m kc,xs.vd,xs.ml] 98)):PSS w' sb N nv { xs with ks:=.slice ka m kc } T A Y (K.take m)/\zm1 w sb nv xs nv { xs with ks:=.slice ka m kc } w':=by
 obtain⟨hf,hfl⟩:=h.fown;have hob:(Value.slice ka m kc).ownBlock=xs.ks.ownBlock:=by rw[hks];cases ka<;>rfl
 have hlm:(K.take m).length=m:=by rw[List.length_take];omega
 have hcells:y9 (K.take m)=(y9 K).take (m*4):=by
  have e:y9 K=y9 (K.take m)++y9 (K.drop m):=by unfold y9;rw[<- List.flatMap_append,List.take_append_drop]
  have h1:(y9 (K.take m)).length=m*4:=by rw[zl3,hlm]
  rw[e,List.take_append_of_le_length (by omega)];exact(List.take_of_length_le (by omega)).symm
 have hown:w.ownsRow 0 106 4 (.slice ka m kc) m (y9 (K.take m)):=by
  have hk:=h.kown;rw[hks] at hk;refine⟨by rw[zl3,hlm],?_⟩;rcases hk.2 with⟨e,e0⟩|⟨g,cap,cur,hv,h1,hh,h2,h3,h4,h5⟩
  ·have hm0:m=0:=by omega
   simp only[Value.slice.injEq] at e;exact .inl ⟨by rw[e.1,e.2.2,hm0],hm0⟩
  ·cases hv;refine .inr ⟨g,kc,cur,rfl,h1,hh,by omega,h3,h4,?_⟩;rw[hcells,<- h5,List.take_take,Nat.min_eq_left (Nat.mul_le_mul_right 4 hm)]
 refine⟨⟨⟨⟨kb,?_,h.p.ts.cl,h.p.ts.nd,h.p.ts.s1,h.p.ts.s2⟩,?_,h.p.ac,h.p.nd,h.p.s3,h.p.s4,h.p.ap⟩,?_,h.few,h.ok,⟨?_,hfl⟩,?_,h.ffew,by rw[hlm];have:=h.kfew;omega,h.tfew,h.afew,?_,?_,?_⟩,?_,?_⟩
 ·exact h.p.ts.row.ext hE h.p.ts.s1 h.p.ts.s2
 ·exact h.p.ar.ext hE h.p.s3 h.p.s4
 ·exact z7 h.nown hE h.sb_n
 ·exact z7 hf hE (fun q hq e=>(h.f1 q hq).1 (.inl (.inl e)))
 ·rw[hlm];exact z7 hown hE (fun q hq e=>h.k1 q (hob▸hq) (.inl (.inl e)))
 ·exact fun k hk=>⟨(h.n1 k hk).1,(h.n1 k hk).2.1,fun e=>(h.n1 k hk).2.2 (hob▸e)⟩
 ·exact fun k hk=>⟨(h.f1 k hk).1,fun e=>(h.f1 k hk).2 (hob▸e)⟩
 ·exact fun k hk=>h.k1 k (hob▸hk)
 ·exact hE.mono (fun k _ e=>.inl (.inl (.inl e)))
 ·rintro k (e|e|e|e)
  ·exact .inl (.inl e)
  ·exact .inl (.inr (.inl e))
  ·exact .inl (.inr (.inr (.inl e)))
  ·exact .inl (.inr (.inr (.inr (hob▸e))))
end
theorem zZ3{N:List Nm}{n:Nat}(hn:n<=N.length):(X2 N).take (n*2)=X2 (N.take n):=by
 have e:X2 N=X2 (N.take n)++X2 (N.drop n):=by unfold X2;rw[<- List.flatMap_append,List.take_append_drop]
 have hl:(N.take n).length=n:=by rw[List.length_take];omega
 rw[e,List.take_append_of_le_length (by rw[zr3,hl];exact Nat.le_refl _),List.take_of_length_le (by rw[zr3,hl];exact Nat.le_refl _)]
theorem qR0{w:World}{sb n:Nat}{N:List Nm}{nv:Value}{xs:PX}(kb:w.heap[sb]?=some (.cells #[nv,xs.ts,xs.tm,xs.at_,xs.am,xs.fs,xs.ks,xs.vd,xs.ml] 98))(hown:w.ownsRow 0 142 2 nv N.length (X2 N))(hs:∀ k,nv.ownBlock=some k->¬k=sb)(hN:N.length<=20)(hn:n<=N.length):
  Calls prog 43 #[.pointer (some ⟨sb,0,none⟩),.int .i64 n] w fun e w'=>e=.returned (.tuple #[])/\∃ nv',w'.heap[sb]?=some (.cells #[nv',xs.ts,xs.tm,xs.at_,xs.am,xs.fs,xs.ks,xs.vd,xs.ml] 98)/\w'.ownsRow 0 142 2 nv' (N.take n).length (X2 (N.take n))/\q9 (fun k=>k=sb\/nv.ownBlock=some k) w w'/\nv'.ownBlock=nv.ownBlock:=by
 obtain⟨a,c,rfl⟩:=Q0 hown;have c0:=z6 kb 0;have hsb:=z8 kb;have KB:=q8 kb;have HS:=q8 hs;have HOR:=q8 (z7 hown ((q9.refl (fun _=>False) w).drew) (fun _ _ f=>f));have hl:(N.take n).length=n:=by rw[List.length_take];omega
 have HL:=q8 hl;have HFT:=q8 (zZ3 hn);clear kb hs hown hl;go_enter func43,ntmps43;go_wp2_with fail
 go_region_law (go_simp;go_wp2_with (go_at_call 64;refine(jo0 HOR.out hn (by omega)).mono ?_;rintro e w2 ⟨v',rfl,hown2,hx2,hob⟩;obtain⟨va,vc,rfl⟩:=Q0 hown2;have kb2:w2.heap[sb]?=some (.cells #[.slice a N.length c,xs.ts,xs.tm,xs.at_,xs.am,xs.fs,xs.ks,xs.vd,xs.ml] 98):=(hx2.block sb hsb (fun e=>HS.out sb e rfl)).trans KB.out;have d0:=z6 kb2 0;have d0f:=Q8 kb2 0))
 all_goals
  go_wp2_with fail
  go_end0
  have hW:q9 (fun k=>k=sb) w2 (w2.setCell ⟨sb,0,none⟩ (.slice va n vc)):=(q9.refl (fun k=>k=sb) w2).setCell (p:=⟨sb,0,none⟩) (fun _=>rfl) _;refine⟨rfl,.slice va n vc,Y4 kb2 0 _,?_,?_,hob⟩
  ·rw[HFT.out] at hown2;rw[HL.out];exact z7 hown2 hW (fun k hk e=>HS.out k (hob▸hk) e)
  ·exact((((q9.refl (fun k=>(Value.slice a N.length c).ownBlock=some k) w).drew).trans hx2).mono (fun _ _ e=>.inr e)).trans' hW (fun _ _ e=>.inl e)
end Go.Proofs.YtegbdaffhpiacaaGreatDoor
