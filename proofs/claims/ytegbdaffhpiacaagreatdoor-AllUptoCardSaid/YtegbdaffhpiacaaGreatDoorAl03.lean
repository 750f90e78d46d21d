/- Part. -/
import Derived.Test.YtegbdaffhpiacaaGreatDoorAlW
import Derived.Test.YtegbdaffhpiacaaGreatDoorAl00
import Derived.Test.YtegbdaffhpiacaaGreatDoorAl55
import Derived.Lib.Strings
set_option maxHeartbeats 400000
open Bool renaming false->aT,true->aS
open ByteArray renaming toList->aF
open List renaming length->aA
open Go.World renaming cell?->aE
namespace Go.Proofs.YtegbdaffhpiacaaGreatDoor
section
open Go.RowKit
variable{p:Addr}{S T:Nat->Prop}{a b c w w':World}
theorem q8{p:Prop}(h:p):Hid p:=h
structure q9(S:Nat->Prop)(w w':World):Prop where
 os:w'.os=w.os
 tape:w'.tape=w.tape
 output:w'.output=w.output
 size:w.heap.size<=w'.heap.size
 block:∀ k,k<w.heap.size->¬S k->w'.heap[k]?=w.heap[k]?
theorem q9.refl(S:Nat->Prop)(w:World):q9 S w w:=⟨rfl,rfl,rfl,cj _,λ_ _ _=>rfl⟩
abbrev eX(w W:World):Prop:=q9 (fun _=>False) w W
theorem eR(w:World):q9 (λ_=>False) w w:=q9.refl _ w
theorem q9.z(h:q9 S a b)(k:q9 S b c):q9 S a c:=⟨k.os.z h.os,k.tape.z h.tape,k.output.z h.output,dm h.size k.size,λi e d=>(k.block i (cC e h.size) d).z (h.block i e d)⟩
theorem q9.z'(h:q9 S a b)(k:q9 T b c)(f:∀i,i<a.heap.size->T i->S i):q9 S a c:=⟨k.os.z h.os,k.tape.z h.tape,k.output.z h.output,dm h.size k.size,λi d e=>(k.block i (cC d h.size) (λt=>e (f i d t))).z (h.block i d e)⟩
theorem q9.I(h:q9 S a b)(d:∀i,i<a.heap.size->S i->T i):q9 T a b:=⟨h.os,h.tape,h.output,h.size,λi c e=>h.block i c (λs=>e (d i c s))⟩
theorem q9.drew(h:q9 S a w):q9 S a w.drew:=⟨h.os,h.tape,h.output,h.size,h.block⟩
theorem q9.drewN(h:q9 S a w)(n:Nat):q9 S a (w.drewN n):=⟨h.os,h.tape,h.output,h.size,h.block⟩
theorem q9.alloc(h:q9 S a w)(o:Obj):q9 S a (w.alloc o):=h.z ⟨rfl,rfl,rfl,bK,λ_ b _=>Below.heap_alloc _ _ _ b⟩
theorem q9.setCell(h:q9 S a w)(b:p.block<a.heap.size->S p.block)(u:Value):q9 S a (w.setCell p u):=h.z' (T:=λi=>i=p.block) ⟨rfl,rfl,rfl,Ur,λ_ _ c=>Below.heap_setCell _ _ _ _ c⟩ (λi d e=>by subst e;exact b d)
theorem rr(w:World):q9 S w w:=.refl S w
theorem q9.M(h:eX a b):q9 S a b:=h.I (λ_ _ f=>f.elim)
theorem q9.sc(h:q9 S a w)(b i:Nat)(v:Value)(e:S b:=by exact rfl):q9 S a (w.setCell ⟨b,i,none⟩ v):=h.setCell (λ_=>e) v
theorem q9.cell(h:q9 S w w')(b:p.block<w.heap.size)(a:¬S p.block):aE w' p=aE w p:=World.cell?_of_block (w:=w) (h.block p.block b a)
theorem q9.frozen(h:q9 S w w')(b:p.block<w.heap.size)(a:¬S p.block):w'.frozen? p=w.frozen? p:=World.frozen?_of_block (w:=w) (h.block p.block b a)
end
section
open Tryz
open Go.RowKit
theorem jx7(w:ao)(a b n cap:Nat)(i:Nat)(s:ax)(c:i<n)(c0:aE w (aD a 0)=some (az b n cap))(c1:aE w (aD a 1)=some (iI i))(d:aE w ⟨b,i*2+1,none⟩=some (ai s)):cP 161 #[pT a] w λe w'=>e=.returned (ai s)/\∃n,w'=w.drewN n:=by delta cP;go_in;go_wp2;go_quiet (fail);go_wp2;go_ret;exact⟨rfl,_,rfl⟩
theorem jh7(w:ao)(a:Nat)(e:Int)(k:Int)(c:¬k=0)(c4:aE w (aD a 4)=some (iI k)):cP 162 #[pT a,iI e] w λb w'=>b=.returned (.tuple #[])/\w'=w:=by delta cP;go_in;go_wp2;go_end0;exact lN
theorem jh8(w:ao)(a b n cap:Nat)(i:Nat)(e:Int)(pl:Int)(f:au)(h:i<n)(c0:aE w (aD a 0)=some (az b n cap))(c1:aE w (aD a 1)=some (iI i))(c4:aE w (aD a 4)=some (iI 0))(j:w.frozen? (aD a 4)=aT)(c5:aE w (aD a 5)=some f)(g:w.frozen? (aD a 5)=aT)(c:¬b=a)(k:aE w ⟨b,i*2,none⟩=some (iI pl)):cP 162 #[pT a,iI e] w λd w'=>d=.returned (.tuple #[])/\∃n,w'=((w.setCell (aD a 4) (iI e)).setCell (aD a 5) (iI pl)).drewN n:=by delta cP;go_in;go_wp2;go_region;go_outline;all_goals (go_end0;exact⟨rfl,1,rfl⟩)
end
section
open Go.RowKit
theorem Z6(s:ByteArray):aA s.toList=s.size:=by rw[ByteArray.toList_eq];exact(Lib.size_eq s).symm
theorem Hd(s:ByteArray)(k:Nat)(h:k<s.size):s.toList.take (k+1)=s.toList.take k++[s[k]]:=by rw[ByteArray.toList_eq,MW (by rw[<-Lib.size_eq];exact h)];rfl
theorem C2(s:ByteArray)(k:Nat)(h:s.size<=k):s.toList.take k=s.toList:=by rw[cZ];rw[Z6];exact h
theorem O8{a b:ByteArray}(h:a.toList=b.toList):a=b:=by rw[ByteArray.toList_eq,ByteArray.toList_eq]at h;cases a;cases b;simp_all
theorem Vv{p:UInt8->Bool}{l:aU}{k:Nat}(h:(l.take k).all p=aT):l.all p=aT:=by rw[<-jB k l,List.all_append,h];rfl
theorem C3(s:ByteArray)(p:UInt8->Bool)(k:Nat)(h:k<s.size)(a:p s[k]=aT):s.toList.all p=aT:=by apply Vv (k:=k+1);rw[Hd s k h,List.all_append];simp[a]
theorem He(s:ByteArray)(p:UInt8->Bool)(k:Nat)(h:k<s.size)(b:(s.toList.take k).all p=aS)(a:p s[k]=aS):(s.toList.take (k+1)).all p=aS:=by rw[Hd s k h,List.all_append,b];simp[a]
theorem tt{a b:Bool}(h:a=b):Ending.returned (.bool a)=.returned (.bool b):=by rw[h]
theorem Vw{k:IntKind}{a b:Int}(h:a=b):Ending.returned (.int k a)=.returned (.int k b):=by rw[h]
end
namespace Ar
def C5(n:Nat):UInt8:=UInt8.ofNat (48+n)
def pW:Nat->Nat->aU
 | 0,n=>[C5 n]
 | f+1,n=>if n<10 then [C5 n] else pW f (n/10)++[C5 (n%10)]
def itoa(v:Int):aU:=if v<0 then 45::pW 3 (-v).toNat else pW 3 v.toNat
def eG(k:Int)(w:ByteArray)(v:Int):aU:=if k=4\/k=5 then itoa v else w.toList
mutual
def Z0:Nd->List UInt8
 | .mk k w v ps=>if k=1\/k=2\/ps≠[] then 40::(eG k w v++J0 ps++[41]) else eG k w v
def J0:List Nd->List UInt8
 | []=>[]
 | p::ps=>32::(Z0 p++J0 ps)
end
theorem Vx(ps:aY)(p:Nd):J0 (ps++[p])=J0 ps++32::Z0 p:=by induction ps with|nil=>(simp[J0])|cons q qs a=>simp[J0,a]
theorem Vy(f n:Nat):aA (pW f n)<=f+1:=by induction f generalizing n with|zero=>(simp[pW])|succ f a=>unfold pW;split;simp;have:=a (n/10);exact bQ
theorem Nb(v:Int):aA (itoa v)<=5:=by unfold itoa;split;have:=Vy 3 (-v).toNat;exact bQ;have:=Vy 3 v.toNat;omega
def TS(ts:aZ):Prop:=∀ t∈ts,t.bI.size<=600
theorem TS.tail{t:Tk}{ts:aZ}(h:TS (t::ts)):TS ts:=λu a=>h u (kJ _ a)
def BD(nd:Nd)(ts a:aZ):Prop:=aA (Z0 nd)+1+603*aA a<=603*aA ts/\TS a
def Fits(f:aZ->Rs Nd):Prop:=∀ ts nd a,TS ts->f ts=.ok nd a->BD nd ts a
theorem xM(c:List (aZ->Rs Nd))(h:∀f∈c,Fits f):∀ts ps b,TS ts->J5 c ts=.ok ps b->aA (J0 ps)+603*aA b<=603*aA ts/\TS b:=by induction c with|nil=>(intro ts ps b d e;simp only[J5,Rs.ok.injEq]at e;obtain⟨rfl,rfl⟩:=e;exact⟨by simp[J0],d⟩)|cons f c p=>intro ts ps b d e;unfold J5 at e;split at e;exact cF;rename_i a k n;split at e;exact cF;rename_i l vs o;simp only[Rs.ok.injEq]at e;obtain⟨rfl,rfl⟩:=e;have j:=h f (List.mem_cons_self ..) ts a k d n;have i:=p (λg m=>h g (List.mem_cons_of_mem _ m)) k l vs j.2 o;refine⟨? _,i.2⟩;have:=j.1;have:=i.1;simp[J0];omega
theorem jh0(m:Nat)(f:aZ->Rs Nd)(h:Fits f):∀ts ps b,TS ts->Y8 m f ts=.ok ps b->aA (J0 ps)+603*aA b<=603*aA ts/\TS b:=by induction m with|zero=>(intro ts ps b _ e;exact absurd e (by simp[Y8]))|succ m n=>intro ts ps b g e;cases ts with|nil=>(exact absurd e (by simp[Y8]))|cons t ts=>unfold Y8 at e;split at e;simp only[Rs.ok.injEq]at e;obtain⟨rfl,rfl⟩:=e;exact⟨by simp[J0],g⟩;split at e;exact cF;rename_i a i k;split at e;exact cF;rename_i j vs l;simp only[Rs.ok.injEq]at e;obtain⟨rfl,rfl⟩:=e;have d:=h _ a i g k;have c:=n i j vs d.2 l;refine⟨? _,c.2⟩;have:=d.1;have:=c.1;simp[J0]at*;omega
theorem Hf(s:ByteArray):aA s.toList=s.size:=Z6 s
theorem C6(k:Int)(a:k=4\/k=5):Fits (W8 k):=by intro ts nd d b e;cases ts with|nil=>(exact absurd e (by simp[W8]))|cons t ts=>simp only[W8]at e;split at e;exact cF;rename_i v _;split at e;exact cF;simp only[Rs.ok.injEq]at e;obtain⟨rfl,rfl⟩:=e;refine⟨? _,b.tail⟩;have:=Nb v;have c:¬(k=1\/k=2\/([]:aY)≠[]):=by{rcases a with rfl|rfl<;>simp};rw[Z0,bL c,eG,bO a];exact bQ
theorem jX5(k:Int)(w:ByteArray)(v:Int)(h:w.size<=600):aA (eG k w v)<=600:=by unfold eG;split;have:=Nb v;omega;rw[Hf];exact h
theorem C8(k:Int)(w:ByteArray)(v:Int)(ps:aY)(h:w.size<=600):aA (Z0 (.mk k w v ps))<=602+aA (J0 ps):=by have:=jX5 k w v h;rw[Z0];split;exact bQ;omega
theorem Vz{e k:Int}{w:ByteArray}{r:Rs (aY)}{nd:Nd}{ts a:aZ}(c:w.size<=600)(f:∀ps b,r=.ok ps b->aA (J0 ps)+603*aA b<=603*aA ts/\TS b)(h:Z5 e k w r=.ok nd a):aA (Z0 nd)+603*aA a<=603*aA ts/\TS a:=by cases r with|no e p=>(exact absurd h (by simp[Z5]))|ok ps b=>obtain⟨h1,d⟩:=f ps b rfl;cases b with|nil=>(exact absurd h (by simp[Z5,U0]))|cons v vs=>simp only[Z5,U0]at h;split at h;simp only[Rs.ok.injEq]at h;obtain⟨rfl,rfl⟩:=h;have:=C8 k w 0 ps c;refine⟨? _,d.tail⟩;exact xz;exact Zed
theorem Nc{f:aZ->Rs Nd}(h:Fits f):Fits (fp f):=by intro ts _ _ a e;cases ts with|nil=>(exact absurd e (by simp[fp]))|cons t ts=>simp only[fp]at e;split at e;exact cF;exact h _ _ _ a e
theorem vh(N:a6)(n:Nat):∀d,Fits (Z4 N n d):=by induction n with|zero=>(intro d ts nd c _ e;exact absurd e zx)|succ n l=>intro d ts nd c b e;cases ts with|nil=>(exact absurd e zx)|cons t ts=>unfold Z4 at e;split at e;split at e;exact cF;split at e;exact cF;rename_i u h;split at e;split at e;exact cF;rename_i a _;split at e;exact cF;have g:TS h:=b.tail.tail;have i:=Vz (ts:=h) (b.tail u (List.mem_cons_self ..)) (λps vs k=>xM _ (λf j=>by rw[(List.mem_replicate.1 j).2];exact Nc (l (d+1))) h ps vs g k) e;refine⟨? _,i.2⟩;have:=i.1;exact bQ;exact cF;split at e;split at e;exact cF;split at e;simp only[Rs.ok.injEq]at e;obtain⟨rfl,rfl⟩:=e;refine⟨? _,b.tail⟩;have:=C8 3 t.bI 0 [] (b t (List.mem_cons_self ..));simp[J0]at*;omega;exact cF;exact C6 4 (Or.inl rfl) _ _ _ b e
theorem Nf(N:a6)(n:Nat):∀d,Fits (Z8 N n d):=by induction n with|zero=>(intro d ts nd b _ e;exact absurd e uM)|succ n ih=>intro d ts nd b a e;cases ts with|nil=>(exact absurd e uM)|cons t ts=>unfold Z8 at e;split at e;split at e;exact cF;split at e;exact cF;rename_i u us;split at e;exact cF;rename_i ks _;have tu:TS us:=a.tail.tail;have g:∀ps vs,nL ks.2 n (Z8 N n (d+1)) (Z4 N n (d+1)) (W8 5) us=.ok ps vs->aA (J0 ps)+603*aA vs<=603*aA us/\TS vs:=by{intro ps vs hr;unfold nL at hr;split at hr;exact Zij;split at hr;exact Zij;split at hr;exact xM _ (by intro f hf;simp at hf;subst hf;exact vh N n (d+1)) us ps vs tu hr;split at hr;exact xM _ (by intro f hf;simp at hf;rcases hf with rfl|rfl;exact vh N n (d+1);exact C6 5 (Or.inr rfl)) us ps vs tu hr;exact jh0 n _ (ih (d+1)) us ps vs tu hr};have c:=Vz (ts:=us) (a.tail u (List.mem_cons_self ..)) g e;refine⟨? _,c.2⟩;have:=c.1;exact bQ;split at e;simp only[Rs.ok.injEq]at e;obtain⟨rfl,rfl⟩:=e;refine⟨? _,a.tail⟩;have:=C8 0 t.bI 0 [] (a t (List.mem_cons_self ..));simp[J0]at*;omega;exact cF
end Ar
namespace Ar
def jU(i:Nat)(wd:aU):aZ:=if wd=[] then [] else [⟨i-aA wd,⟨wd.toArray⟩⟩]
def dJ:Nat->aU->aU->aZ
 | i,wd,[]=>jU i wd++[⟨i,ByteArray.empty⟩]
 | i,wd,c::r=>if jD c then jU i wd++⟨i,⟨#[c]⟩⟩::dJ (i+1) [] r else if jT c then jU i wd++dJ (i+1) [] r else dJ (i+1) (wd++[c]) r
def cr(l:aU):aZ:=dJ 0 [] l
theorem Ng(i:Nat)(wd:aU):aA (jU i wd)=if wd=[]then 0 else 1:=by unfold jU;split<;>rfl
theorem jX7(l:aU):∀i wd,aA (dJ i wd l)<=aA l+1+(if wd=[]then 0 else 1):=by induction l with|nil=>(intro i wd;simp[dJ,Ng];omega)|cons c r a=>intro i wd;unfold dJ;split;have:=a (i+1) [];simp[Ng]at this⊢;omega;split;have:=a (i+1) [];simp[Ng]at this⊢;omega;have:=a (i+1) (wd++[c]);simp at this⊢;exact pK
theorem C9(l:aU):aA (cr l)<=aA l+1:=by have:=jX7 l 0 [];simpa[cr]using this
theorem mM(l:aU):(ByteArray.mk l.toArray).toList=l:=Um
theorem VA{t:Tk}{ts:aZ}(h:TW ts)(a:aF t.bI≠[]):TW (t::ts):=by cases ts with|nil=>(exact absurd rfl h.ne)|cons u b=>exact⟨a,h⟩
theorem Nh{i:Nat}{wd:aU}{ts:aZ}(h:TW ts):TW (jU i wd++ts):=by unfold jU;split;exact h;rename_i a;exact VA h (by rw[mM];exact a)
theorem tz:ByteArray.empty.toList=[]:=by rw[ByteArray.toList_eq];rfl
theorem Da(l:aU):∀i wd,TW (dJ i wd l):=by induction l with|nil=>(intro i wd;exact Nh tz)|cons c r a=>intro i wd;unfold dJ;split;exact Nh (VA (a _ _) (by rw[show(ByteArray.mk #[c]).toList=[c]from mM [c]];simp));split;exact Nh (a _ _);exact a _ _
theorem Hg(l:aU)(B:Nat):∀i wd,aA wd+aA l<=B->1<=B->∀t∈dJ i wd l,t.bI.size<=B:=by
 have b:∀i wd,aA wd<=B->∀t∈jU i wd,t.bI.size<=B:=by intro i wd d t a;unfold jU at a;split at a;exact absurd a bK;simp at a;rw[a,<-Hf,mM];exact d
 induction l with|nil=>(intro i wd d _ t a;unfold dJ at a;rcases List.mem_append.1 a with h|h;exact b _ _ (by simp at d;omega) t h;simp at h;rw[h,<-Hf,tz];simp)|cons c r e=>intro i wd d h1 t a;simp at d;unfold dJ at a;split at a;rcases List.mem_append.1 a with h|h;exact b _ _ bH t h;rcases List.mem_cons.1 h with h|h;rw[h,<-Hf,show(ByteArray.mk #[c]).toList=[c]from mM [c]];exact uK;exact e _ _ bQ h1 t h;split at a;rcases List.mem_append.1 a with h|h;exact b _ _ bH t h;exact e _ _ bQ h1 t h;exact e _ _ bQ h1 t a
end Ar
namespace Ar
def jE(c:UInt8):Bool := ! jT c && ! jD c
def eJ(l:aU):Int:=if l=[] then 0 else if l=[40] then 1 else if l=[41] then 2 else 3
theorem jw8(u:aU):∀i wd rest,u.all jE=aS->dJ i wd (u++rest)=dJ (i+aA u) (wd++u) rest:=by induction u with|nil=>(intro i wd rest _;simp)|cons c u b=>intro i wd rest h;simp only[List.all_cons,Bool.and_eq_true]at h;obtain⟨a,d⟩:=h;simp only[jE,Bool.and_eq_true,Bool.not_eq_true']at a;rw[List.cons_append,dJ,if_neg (by rw[a.2];decide),if_neg (by rw[a.1];decide),b _ _ _ d];simp;have:i+1+aA u=i+(aA u+1):=bH;rw[this]
theorem jM3(j:Nat)(wd rest:aU)(e:wd≠[])(g:∀c r,rest=c::r->jE c=aT):dJ j wd rest=⟨j-aA wd,⟨wd.toArray⟩⟩::dJ j [] rest:=by
 have b:jU j wd=[⟨j-aA wd,⟨wd.toArray⟩⟩]:=by rw[jU,bL e]
 have a:jU j []=[]:=rfl;cases rest with|nil=>(simp[dJ,b,a])|cons c r=>have d:=g c r rfl;cases hb:jD c with|true=>(simp[dJ,hb,b,a])|false=>have f:jT c=aS:=by{cases h:jT c with|true=>(rfl)|false=>rw[jE,h,hb]at d;exact absurd d bJ};simp[dJ,hb,f,b,a]
theorem jM4(k:Nat)(u rest:aU)(d:u≠[])(a:u.all jE=aS)(b:∀c r,rest=c::r->jE c=aT):dJ k [] (u++rest)=⟨k,⟨u.toArray⟩⟩::dJ (k+aA u) [] rest:=by rw[jw8 u k [] rest a,qF,jM3 _ _ _ d b];have:k+aA u-aA u=k:=bH;rw[this]
theorem Zc4(k:Nat)(c:UInt8)(r:aU)(h:jD c=aS):dJ k [] (c::r)=⟨k,⟨#[c]⟩⟩::dJ (k+1) [] r:=by rw[dJ,bO h];rfl
theorem Zc5(k:Nat)(c:UInt8)(r:aU)(h:jT c=aS):dJ k [] (c::r)=dJ (k+1) [] r:=by
 have hb:jD c=aT:=by unfold jT at h;simp at h;rcases h with(rfl|rfl)|rfl<;>decide
 rw[dJ,bL (by rw[hb];decide),bO h];rfl
theorem jw9{u:aU}(c:u≠[])(hp:u.all jE=aS):eJ u=3:=by have b:u≠[40]:=Zmq;have a:u≠[41]:=Zmq;rw[eJ,bL c,bL b,bL a]
end Ar
namespace Ar
theorem Hh(d b:List (aZ->Rs Nd)):∀ts,J5 (d++b) ts=match J5 d ts with|.no e p=>.no e p|.ok g c=>match J5 b c with|.no e p=>.no e p|.ok bs vs=>.ok (g++bs) vs:=by induction d with|nil=>(intro ts;simp only[List.nil_append,J5];cases J5 b ts<;>simp)|cons f i h=>intro ts;simp only[List.cons_append,J5];cases f ts with|no e p=>(simp)|ok a c=>simp only[h c];cases J5 i c with|no e p=>(simp)|ok g vs=>simp only;cases J5 b vs<;>simp
theorem Ni(b:List (aZ->Rs Nd)):∀ts ps a,J5 b ts=.ok ps a->aA ps=aA b:=by induction b with|nil=>(intro ts ps a e;simp only[J5,Rs.ok.injEq]at e;rw[<-e.1];rfl)|cons f b c=>intro ts ps a e;unfold J5 at e;split at e;exact cF;split at e;exact cF;rename_i g vs d;simp only[Rs.ok.injEq]at e;rw[<-e.1,List.length_cons,List.length_cons,c _ _ _ d]
theorem Nj{f:aZ->Rs Nd}{j:Nat}{a c b:aZ}{ps:aY}{p:Nd}(h:J5 (List.replicate j f) a=.ok ps c)(d:f c=.ok p b):J5 (List.replicate (j+1) f) a=.ok (ps++[p]) b:=by rw[List.replicate_succ',Hh,h];simp only[J5,d]
theorem Nk{f:aZ->Rs Nd}{j k:Nat}{a b:aZ}{ps:aY}{e:Int}{p:Nat}(h:J5 (List.replicate j f) a=.ok ps b)(c:f b=.no e p)(d:j<k):J5 (List.replicate k f) a=.no e p:=by obtain⟨m,rfl⟩:∃m,k=j+(m+1):=⟨k-j-1,bH⟩;rw[<-List.replicate_append_replicate,Hh,h];simp only[List.replicate_succ,J5,c]
end Ar
namespace Ar
def qK(ps:aY):Rs (aY)->Rs (aY)
 | .no e p=>.no e p
 | .ok qs ts=>.ok (ps++qs) ts
theorem VB(r:Rs (aY)):qK [] r=r:=by cases r<;>simp[qK]
theorem VC{F:aZ->Rs Nd}{m:Nat}{ps:aY}{v:Tk}{vs a:aZ}{nd:Nd}(c:¬aF v.bI=[41])(b:F (v::vs)=.ok nd a):qK ps (Y8 (m+1) F (v::vs))=qK (ps++[nd]) (Y8 m F a):=by simp only[Y8,bL c,b];cases Y8 m F a<;>simp[qK]
theorem VD{F:aZ->Rs Nd}{m:Nat}{ps:aY}{v:Tk}{vs:aZ}{e:Int}{p:Nat}(b:¬aF v.bI=[41])(a:F (v::vs)=.no e p):qK ps (Y8 (m+1) F (v::vs))=.no e p:=by rw[Y8,bL b,a];rfl
theorem VE{F:aZ->Rs Nd}{m:Nat}{ps:aY}{v:Tk}{vs:aZ}(a:aF v.bI=[41]):qK ps (Y8 (m+1) F (v::vs))=.ok ps (v::vs):=by rw[Y8,bO a];simp[qK]
theorem VF{f:aZ->Rs Nd}(h:Fits f){ts a:aZ}{nd:Nd}(b:TS ts)(e:f ts=.ok nd a):aA a+1<=aA ts:=by have:=(h ts nd a b e).1;omega
theorem Nl(c:List (aZ->Rs Nd))(h:∀f∈c,Fits f):∀ts ps b,TS ts->J5 c ts=.ok ps b->aA c+aA b<=aA ts:=by induction c with|nil=>(intro ts ps b d e;simp only[J5,Rs.ok.injEq]at e;obtain⟨rfl,rfl⟩:=e;simp)|cons f c n=>intro ts ps b d e;unfold J5 at e;split at e;exact cF;rename_i a j i;split at e;exact cF;rename_i k vs m;simp only[Rs.ok.injEq]at e;obtain⟨rfl,rfl⟩:=e;have p:=VF (h f (List.mem_cons_self ..)) d i;have o:=n (λg l=>h g (List.mem_cons_of_mem _ l)) j k vs (h f (List.mem_cons_self ..) ts a j d i).2 m;exact bQ
end Ar
namespace Ar
def J7(N:a6)(l:aU)(a:Int):Int :=
 if X7 l=aT then 3 else if a<0\/3<a then 4 else if (k9 N l).isSome=aS then 7 else if 20<=aA N then 8 else 0
def fT(N:a6)(F:Int)(s:ByteArray)(a:Int):a6:=if J7 N s.toList a=0 then N++[⟨s,a,F⟩] else N
end Ar
namespace Ar
def Gd(n:Nat)(f:aZ->Rs Nd):Prop:=∀ ts,TW ts->aA ts<=n->(∀ e p,f ts=.no e p->e≠0)/\(∀ nd a,f ts=.ok nd a->TW a/\aA a<aA ts)
def Hi(r:Rs (aY))(ts:aZ):Prop:=(∀ e p,r=.no e p->e≠0)/\(∀ ps a,r=.ok ps a->TW a/\aA a<=aA ts)
theorem Gd.I{n m:Nat}{f:aZ->Rs Nd}(h:Gd n f)(b:m<=n):Gd m f:=λts a _=>h ts a bH
theorem Db(n:Nat)(c:List (aZ->Rs Nd))(h:∀f∈c,Gd n f):∀ts,TW ts->aA ts<=n->Hi (J5 c ts) ts:=by induction c with|nil=>(intro ts i _;exact⟨λe p h=>by simp[J5]at h,λps b h=>by simp[J5]at h;obtain⟨_,rfl⟩:=h;exact⟨i,Nat.le_refl _⟩⟩)|cons f c r=>intro ts i q;have hf:=h f (List.mem_cons_self ..) ts i q;have d:=r (λg m=>h g (List.mem_cons_of_mem _ m));unfold J5;cases hr:f ts with|no e p=>(exact⟨λj l h'=>ZiE,λps b h'=>uO⟩)|ok a k=>have o:=hf.2 _ _ hr;have h2:=d k o.1 bH;cases hq:J5 c k with|no e p=>(exact⟨λj l h'=>Ziu,λps b h'=>UG⟩)|ok s vs=>have h3:=h2.2 _ _ hq;exact⟨λj l h'=>UG,λps b h'=>ZlW⟩
theorem jM7(n:Nat)(f:aZ->Rs Nd)(h:Gd n f)(m:Nat):∀ts,TW ts->aA ts<=n->aA ts<=m->Hi (Y8 m f ts) ts:=by induction m with|zero=>(intro ts c _ g;cases ts with|nil=>(exact absurd c rM)|cons t ts=>simp at g)|succ m o=>intro ts c g _;cases ts with|nil=>(exact absurd c rM)|cons t ts=>have hf:=h (t::ts) c g;unfold Y8;by_cases k:aF t.bI=[41];rw[if_pos k];exact⟨λd i h'=>uO,λps b h'=>by simp at h';obtain⟨_,rfl⟩:=h';exact⟨c,Nat.le_refl _⟩⟩;rw[if_neg k];cases hr:f (t::ts)with|no e p=>(exact⟨λd i h'=>ZiE,λps b h'=>uO⟩)|ok a j=>have l:=hf.2 _ _ hr;have h2:=o j l.1 bH bH;cases hq:Y8 m f j with|no e p=>(exact⟨λd i h'=>Ziu,λps b h'=>UG⟩)|ok q vs=>have h3:=h2.2 _ _ hq;exact⟨λd i h'=>UG,λps b h'=>ZlW⟩
theorem VG(n:Nat)(k:Int):Gd n (W8 k):=by intro ts b _;cases ts with|nil=>(exact absurd b rM)|cons t ts=>simp only[W8];cases d:numOf (aF t.bI) with|none=>(exact⟨λe' p' h'=>Zml,λps cA h'=>uO⟩)|some v=>have a:aF t.bI≠[]:=by{intro e;rw[e,show numOf []=none from bJ]at d;cases d};by_cases c:v< -1000\/1000<v;simp only[bO c];exact Zci;simp only[bL c];exact⟨λe' p' h'=>uO,λps cA h'=>by simp at h';obtain⟨_,rfl⟩:=h';exact⟨b.tail a,bK⟩⟩
theorem VH{e k:Int}{w:ByteArray}{r:Rs (aY)}{ts:aZ}(he:e≠0)(h:Hi r ts):(∀e' p,Z5 e k w r=.no e' p->e'≠0)/\(∀nd cA,Z5 e k w r=.ok nd cA->TW cA/\aA cA<aA ts):=by cases r with|no i g=>(exact⟨λe' p' h'=>by simp[Z5]at h';obtain⟨rfl,rfl⟩:=h';exact h.1 _ _ rfl,λps cA h'=>by simp[Z5]at h'⟩)|ok ps f=>have a:=h.2 _ _ rfl;cases f with|nil=>(exact absurd a.1 rM)|cons v vs=>simp only[Z5,U0];by_cases b:aF v.bI=[41];rw[bO b];refine⟨λe' p' h'=>uO,λnd cA h'=>? _⟩;simp at h';obtain⟨_,rfl⟩:=h';have d:=a.2;exact⟨a.1.tail (by rw[b];simp),by simp at d;omega⟩;rw[bL b];by_cases c:aF v.bI=[];rw[bO c];exact Zci;rw[bL c];exact⟨λe' p' h'=>Zjp,λps cA h'=>uO⟩
theorem jX8{n:Nat}{f:aZ->Rs Nd}(h:Gd n f):Gd n (fp f):=by intro ts hw hl;cases ts with|nil=>(exact absurd hw rM)|cons t ts=>simp only[fp];by_cases hc:aF t.bI=[41];{rw[bO hc];exact Zci};rw[bL hc];exact h _ hw hl
theorem tA{e:Int}{p:Nat}{ts:aZ}(he:e≠0):(∀b c,(Rs.no e p:Rs Nd)=.no b c->b≠0)/\(∀nd a,(Rs.no e p:Rs Nd)=.ok nd a->TW a/\aA a<aA ts):=⟨λb c h'=>Zjp,λ_ a h'=>uO⟩
theorem VI{nd:Nd}{b ts:aZ}(h:TW b)(f:aA b<aA ts):(∀c e,(Rs.ok nd b:Rs Nd)=.no c e->c≠0)/\(∀d a,(Rs.ok nd b:Rs Nd)=.ok d a->TW a/\aA a<aA ts):=⟨λc e h'=>uO,λ_ a h'=>by simp at h';obtain⟨_,rfl⟩:=h';exact⟨h,f⟩⟩
theorem VJ(N:a6)(n:Nat):∀d,Gd n (Z4 N n d):=by induction n with|zero=>(intro d ts c hl;cases ts with|nil=>(exact absurd c rM)|cons t ts=>simp at hl)|succ n m=>intro d ts c hl;cases ts with|nil=>(exact absurd c rM)|cons t ts=>unfold Z4;by_cases g:aF t.bI=[40];have h:=c.tail (by rw[g];simp);rw[if_pos g];by_cases hd:30<=d;rw[if_pos hd];exact tA bJ;rw[if_neg hd];(cases ts with|nil=>(exact absurd h rM)|cons u l=>simp only;by_cases hn:X7 (aF u.bI)=aS;rw[if_pos hn];(cases o:k9 N (aF u.bI) with|none=>(exact tA bJ)|some a=>simp only;by_cases f:a=0;rw[if_pos f];exact tA bJ;rw[if_neg f];have b:aF u.bI≠[]:=Zmr;have i:=h.tail b;have h3:=VH (k:=3) (w:=u.bI) (bJ:(4:Int)≠0) (Db n (List.replicate a.toNat (fp (Z4 N n (d+1)))) (λ_ j=>by rw[(List.mem_replicate.1 j).2];exact jX8 (m (d+1))) l i Uy);exact⟨h3.1,λnd cA h'=>⟨(h3.2 nd cA h').1,ZmB⟩⟩);rw[if_neg hn];exact tA bJ);rw[if_neg g];by_cases hn:X7 (aF t.bI)=aS;rw[if_pos hn];(cases o:k9 N (aF t.bI) with|none=>(exact tA bJ)|some a=>simp only;by_cases f:a=0;rw[if_pos f];have b:aF t.bI≠[]:=Zmr;exact VI (c.tail b) bK;rw[if_neg f];exact tA bJ);rw[if_neg hn];exact VG (n+1) 4 _ c hl
theorem jM9(N:a6)(n:Nat):∀d,Gd n (Z8 N n d):=by induction n with|zero=>(intro d ts h hl;cases ts with|nil=>(exact absurd h rM)|cons t ts=>simp at hl)|succ n r=>intro d ts h hl;cases ts with|nil=>(exact absurd h rM)|cons t ts=>unfold Z8;by_cases j:aF t.bI=[40];{have m:=h.tail (by rw[j];simp);rw[if_pos j];by_cases hd:30<=d;rw[if_pos hd];exact tA bJ;rw[if_neg hd];cases ts with|nil=>(exact absurd m rM)|cons u b=>simp only;cases p:iR (aF u.bI) with|none=>(exact tA bJ)|some ks=>simp only;have g:aF u.bI≠[]:=by{intro e;rw[e,show iR []=none from bJ]at p;cases p};have c:=m.tail g;have a:aA b<=n:=Uy;have hF:=r (d+1);have hT:=VJ N n (d+1);have q:Hi (nL ks.2 n (Z8 N n (d+1)) (Z4 N n (d+1)) (W8 5) b) b:=by{unfold nL;by_cases o:ks.2=0;rw[if_pos o];exact Db n _ Va b c a;rw[if_neg o];by_cases s1:ks.2=1;rw[if_pos s1];exact Db n _ Va b c a;rw[if_neg s1];by_cases s3:ks.2=3;rw[if_pos s3];exact Db n _ ZjB b c a;rw[if_neg s3];by_cases l:ks.2=4;{rw[if_pos l];exact Db n _ (by intro f hf;simp at hf;rcases hf with rfl|rfl<;>first|(exact hT)|exact VG n 5) b c a};rw[if_neg l];exact jM7 n _ hF n b c a a};have h3:=VH (k:=ks.1) (w:=u.bI) (bJ:(2:Int)≠0) q;exact⟨h3.1,λnd cA h'=>⟨(h3.2 nd cA h').1,ZmB⟩⟩};rw[if_neg j];by_cases i:aF t.bI=jm\/aF t.bI=jS;rw[if_pos i];exact VI (h.tail (by rcases i with e|e<;>rw[e]<;>decide)) bK;rw[if_neg i];exact tA bJ
end Ar
namespace Ar
def Y3(t:Bool)(k:Int):Bool:=if t then k==3 || k==4 else k==2
mutual
def Z1(t:Bool):Nd->List Nd
 | .mk k w v ps=>(if Y3 t k=aS then [.mk k w v ps] else [])++z8 t ps
def z8(t:Bool):List Nd->List Nd
 | []=>[]
 | p::ps=>Z1 t p++z8 t ps
end
theorem Hj(t:Bool)(b bs:aY):z8 t (b++bs)=z8 t b++z8 t bs:=by induction b with|nil=>(rfl)|cons a b c=>simp[z8,c]
theorem Z9{t:Bool}{x:Nd}{ps:aY}:x∈z8 t ps↔∃p∈ps,x∈Z1 t p:=by induction ps with|nil=>(simp[z8])|cons p ps a=>simp[z8,a]
def rQ(l:List (aU))(f:aU):List (aU):=if f∈l then l else l++[f]
def lT(l:List (aU))(xs:aY):List (aU):=xs.foldl (fun l x=>rQ l (Z0 x)) l
theorem qi9(l:List (aU))(xs ys:aY):lT l (xs++ys)=lT (lT l xs) ys:=by simp[lT]
theorem VK(l:List (aU))(x:Nd)(xs:aY):lT l (x::xs)=lT (rQ l (Z0 x)) xs:=rfl
theorem jw0{l:List (aU)}{f g:aU}:g∈rQ l f↔g∈l\/g=f:=by unfold rQ;split;rename_i h;exact Zjt;simp
theorem qO8{l:List (aU)}{f:aU}(h:l.Nodup):(rQ l f).Nodup:=by unfold rQ;split;exact h;rename_i c;rw[GO];refine⟨h,bK,? _⟩;intro a d b hb e;simp at hb;subst hb e;exact c d
theorem qO9{xs:aY}:∀{l:List (aU)}{g:aU},g∈lT l xs↔g∈l\/∃x∈xs,g=Z0 x:=by induction xs with|nil=>(intro l g;simp[lT])|cons x xs a=>intro l g;rw[VK,a,jw0];simp[or_assoc]
theorem qt6{xs:aY}:∀{l:List (aU)},l.Nodup->(lT l xs).Nodup:=by induction xs with|nil=>(intro l h;exact h)|cons x xs a=>intro l h;rw[VK];exact a (qO8 h)
theorem qD7{α:Type}[DecidableEq α]:∀{a b:List α},a.Nodup->b.Nodup->(∀x,x∈a↔x∈b)->aA a=aA b:=by intro a;induction a with|nil=>(intro b _ _ h;cases b with|nil=>(rfl)|cons y b=>exact absurd ((h y).2 bK) bK)|cons x a i=>intro b f hb h;have g:x∈b:=(h x).1 bK;have j:=i (b:=b.erase x) (List.nodup_cons.1 f).2 (hb.erase x) (λy=>by rw[List.Nodup.mem_erase_iff hb];constructor;intro c;exact⟨λe=>(List.nodup_cons.1 f).1 (e▸c),(h y).1 (List.mem_cons_of_mem _ c)⟩;rintro⟨d,c⟩;rcases List.mem_cons.1 ((h y).2 c)with e|e;exact absurd e d;exact e);rw[List.length_cons,j,List.length_erase_of_mem g];have:=List.length_pos_of_mem g;omega
theorem jh1{α β:Type}{f:α->β}:∀{l:List α},l.Nodup->(∀x∈l,∀y∈l,f x=f y->x=y)->(l.map f).Nodup:=by intro l;induction l with|nil=>(intro _ _;simp)|cons a l g=>intro h c;rw[List.map_cons,List.nodup_cons];refine⟨? _,g (List.nodup_cons.1 h).2 (λx i y b=>c x (List.mem_cons_of_mem _ i) y (List.mem_cons_of_mem _ b))⟩;intro d;obtain⟨y,b,e⟩:=List.mem_map.1 d;have:=c y (List.mem_cons_of_mem _ b) a bK e;subst this;exact(List.nodup_cons.1 h).1 b
theorem jw1{xs T:aY}(e:T.Nodup)(c:∀x,x∈T↔x∈xs)(a:∀x∈xs,∀y∈xs,Z0 x=Z0 y->x=y):aA (lT [] xs)=aA T:=by rw[show aA T=aA (T.map Z0) from(fG Z0).symm];refine qD7 (qt6 sZ) (jh1 e (λx b y d=>a x ((c x).1 b) y ((c y).1 d))) (λ_=>? _);rw[qO9];constructor;rintro(h|⟨x,b,rfl⟩);exact zA;exact dP.2 ⟨x,(c x).2 b,rfl⟩;intro h;obtain⟨x,b,rfl⟩:=dP.1 h;exact .inr ⟨x,(c x).1 b,rfl⟩
end Ar
end Go.Proofs.YtegbdaffhpiacaaGreatDoor
