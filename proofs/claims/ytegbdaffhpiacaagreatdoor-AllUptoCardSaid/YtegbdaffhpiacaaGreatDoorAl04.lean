/- Part. -/
import Derived.Test.YtegbdaffhpiacaaGreatDoorAlX
import Derived.Test.YtegbdaffhpiacaaGreatDoorAl03
set_option maxHeartbeats 1000000
open Bool renaming false->aT,true->aS
open Go.Ending renaming returned->aH
open List renaming length->aA
open Option renaming none->aR,some->aQ
open Go.Value renaming bool->aN,tuple->aL
open Go.World renaming cell?->aE
namespace Go.Proofs.YtegbdaffhpiacaaGreatDoor
open Tryz Ar
section
open Go.RowKit
variable{b:Nat}{l:aU}{w:ao}{cs:Array au}
theorem Hk(a:Int)(w:ao):cP 80 #[iI a] w λe w'=>e=aH (iI a)/\w'=w:=Vk
theorem VL(c:UInt8):((c.toNat:Int)==32||(c.toNat:Int)==9||(c.toNat:Int)==10)=jT c:=by have h:∀(n:Nat)(k:Int),(n:Int)=k->n<256->((c.toNat:Int)==k)=(c==UInt8.ofNat n):=ZgH;unfold jT;rw[h 32 32 rfl bH,h 9 9 rfl bH,h 10 10 rfl bH];rfl
theorem jb6(c:UInt8)(w:ao):cP 195 #[.int .u8 c.toNat] w λe w'=>e=aH (aN (jT c))/\w'=w:=by rw[<-VL];exact Zch
theorem VM(l:aU)(h:l.all iG=aT):X7 l=aT:=by simp[X7,h]
theorem jx6(l:aU)(n:Nat)(d:aA l=n)(h:l.all iG=aS)(a:ti l=aT)(c:1<=(n:Int)):decide ((n:Int)<=8)=X7 l:=by have b:1<=aA l:=bH;simp only[X7,h,a,b];rw[GP];exact bQ
theorem qP7(l:aU)(n:Nat)(c:aA l=n)(b:(n:Int)<1):aT=X7 l:=by have a:¬1<=aA l:=bH;simp[X7,a]
theorem qL(s:ax)(w:ao)(g:s.size<=maxLen):cP 118 #[ai s] w λe w'=>e=aH (aN (X7 s.toList))/\w'=w:=by
 unfold maxLen at g;delta cP;go_in;go_wp2;go_loop [3](λi=>∃k:Nat,k<=s.size/\i=iI k/\(s.toList.take k).all iG=aS)(λi=>s.size-(intOf i).toNat);case atStart=>exact MD
 case round=>obtain⟨k,_,rfl,f⟩:=hrel;have HA:Hid ((s.toList.take k).all iG=aS):=f;clear f;by_cases a:k<s.size;{go_wp2;(case roundEnd=>exact⟨⟨k+1,bH,bW,He s iG k a HA (by simp[iG];omega)⟩,ch⟩);all_goals go_ret;exact⟨tt (VM _ (C3 s iG k a (by simp[iG];omega))).symm,rfl⟩};have d:Hid (s.toList.all iG=aS):=by{have b:=HA.o;rw[C2 s k bH]at b;exact b};have c:Hid (aA s.toList=s.size):=Z6 s;clear HA;go_wp2;all_goals go_ret;refine⟨tt ? _,rfl⟩;first|(decide)|(have b:=d.o;have h:=c.o;simp_all[X7,ti,jm,jS,fI,iF,iQ,gd,gG];done)|(refine qP7 _ _ c ? _;assumption)|(refine jx6 _ _ c d ? _ ? _;simp_all[ti,jm,jS,fI,iF,iQ,gd,gG];assumption)
theorem VN(c:UInt8)(w:ao):cP 142 #[.int .u8 c.toNat] w λe w'=>e=aH (aN (jT c))/\w=w':=by rw[<-VL];exact Zch
theorem jU7(c:UInt8):((c.toNat:Int)==40||(c.toNat:Int)==41)=jD c:=by have h:∀(n:Nat)(k:Int),(n:Int)=k->n<256->((c.toNat:Int)==k)=(c==UInt8.ofNat n):=ZgH;unfold jD;rw[h 40 40 rfl bH,h 41 41 rfl bH];rfl
theorem qL0(c:UInt8)(w:ao):cP 184 #[.int .u8 c.toNat] w λe w'=>e=aH (aN (jD c))/\w=w':=by rw[<-jU7];exact Zch
theorem Hl(n lo a:Int)(w:ao):cP 68 #[iI n,iI lo,iI a] w λe w'=>e=aH (aN (decide (lo<=n/\n<=a)))/\w=w':=by by_cases h1:lo<=n;{go_enter func68,ntmps68;exact ZkK};go_enter func68,ntmps68;go_wp2;go_ret;exact⟨tt bQ,rfl⟩
theorem qA0(n lo a:Int)(w:ao):cP 141 #[.int .u8 n,.int .u8 lo,.int .u8 a] w λe w'=>e=aH (aN (decide (lo<=n/\n<=a)))/\w=w':=by by_cases h1:lo<=n;{go_enter func141,ntmps141;exact ZkK};go_enter func141,ntmps141;go_wp2;go_ret;exact⟨tt bQ,rfl⟩
def tB(lo a:Int)(c:UInt8):Bool:=decide (lo<=(c.toNat:Int)/\(c.toNat:Int)<=a)
theorem VO(s:ax)(lo a:Int)(w:ao)(l:s.size<=maxLen):cP 102 #[ai s,.int .u8 lo,.int .u8 a] w λe w'=>e=aH (aN (s.toList.all (tB lo a)))/\w=w':=by
 unfold maxLen at l;delta cP;go_in;go_wp2;go_loop [10](λi=>∃k:Nat,k<=s.size/\i=iI k/\(s.toList.take k).all (tB lo a)=aS)(λi=>s.size-(intOf i).toNat);case atStart=>exact MD
 case round=>obtain⟨k,_,rfl,j⟩:=hrel;have HA:=q8 j;clear j;by_cases d:k<s.size;{have f:=qA0 s[k].toNat lo a;cases c:tB lo a s[k]with|true=>(have h:Hid (∀w,cP 141 #[.int .u8 s[k].toNat,.int .u8 lo,.int .u8 a] w λe w'=>e=aH (ah)/\w=w'):=by{intro w;have b:=f w;rw[show decide (lo<=(s[k].toNat:Int)/\(s[k].toNat:Int)<=a)=aS from c]at b;exact b};have g:=q8 c;clear f c;go_wp2_with(go_at_call 141;refine(h.o _).I ? _;rintro e w' ⟨rfl,rfl⟩);exact⟨⟨k+1,bH,bW,He s _ k d HA.o g.o⟩,ch⟩)|false=>have h:Hid (∀w,cP 141 #[.int .u8 s[k].toNat,.int .u8 lo,.int .u8 a] w λe w'=>e=aH (af)/\w=w'):=by{intro w;have b:=f w;rw[show decide (lo<=(s[k].toNat:Int)/\(s[k].toNat:Int)<=a)=aT from c]at b;exact b};have g:=q8 c;clear f c;go_wp2_with(go_at_call 141;refine(h.o _).I ? _;rintro e w' ⟨rfl,rfl⟩);go_ret;exact⟨tt (C3 s _ k d g.o).symm,rfl⟩};go_wp2;go_ret;have b:=HA.o;rw[C2 s k bH]at b;exact⟨tt b.symm,rfl⟩
theorem qA1(s:ax)(w:ao):cP 103 #[ai s] w λe w'=>e=aH (aN (ti s.toList))/\w=w':=by delta cP;go_in;go_wp2;all_goals go_ret;refine⟨tt ? _,rfl⟩;simp_all[ti,jm,jS,fI,iF,iQ,gd,gG]
theorem VP(s:ax):X7 s.toList=(decide (1<=(s.size:Int)/\(s.size:Int)<=8)&&s.toList.all (tB 97 122)&& ! ti s.toList):=by
 unfold X7;have b:s.toList.all iG=s.toList.all (tB 97 122):=rfl;rw[b,Z6];have a:(decide (1<=s.size)&&decide (s.size<=8))=decide (1<=(s.size:Int)/\(s.size:Int)<=8):=by rw[GP];exact bQ
 rw[a];cases s.toList.all (tB 97 122)<;>cases ti s.toList<;>simp
theorem Hm(s:ax)(w:ao)(d:s.size<=maxLen):cP 67 #[ai s] w λe w'=>e=aH (aN (X7 s.toList))/\w=w':=by have b:=Hl s.size 1 8;have a:=VO s 97 122;have c:=qA1 s;rw[VP];generalize decide (1<=(s.size:Int)/\(s.size:Int)<=8)=b1 at*;generalize s.toList.all (tB 97 122)=b2 at*;generalize ti s.toList=b3 at*;obtain⟨g,f,i,h⟩:=cK b a c d;unfold maxLen at d;clear b a c;cases b1<;>cases b2<;>cases b3;all_goals delta cP;go_in;(go_wp2_with first|(go_at_call 68;refine(g _).I ? _;rintro e w' ⟨rfl,rfl⟩)|(go_at_call 102;refine(f _ h).I ? _;rintro e w' ⟨rfl,rfl⟩)|(go_at_call 103;refine(i _).I ? _;rintro e w' ⟨rfl,rfl⟩));go_ret;exact⟨rfl,rfl⟩
theorem Nn(s:ax)(k:Nat)(h:k<s.size):val (s.toList.take (k+1))=min (val (s.toList.take k)*10+((s[k].toNat:Int)-48)) 1001:=by rw[Hd s k h,val,GQ];rfl
theorem vj(l:aU)(h:l.all U5=aS):0<=val l/\val l<=1001:=by
 unfold val;have a:∀(l:aU)(v:Int),l.all U5=aS->0<=v->v<=1001->0<=l.foldl (λv c=>min (v*10+((c.toNat:Int)-48)) 1001) v/\l.foldl (λv c=>min (v*10+((c.toNat:Int)-48)) 1001) v<=1001:=by intro l;induction l with|nil=>(intro v _ d b;exact⟨d,b⟩)|cons c r e=>intro v hd d b;simp only[List.all_cons,Bool.and_eq_true]at hd;obtain⟨g,f⟩:=hd;simp[U5]at g;exact e _ f (by show 0<=min (v*10+((c.toNat:Int)-48)) 1001;omega) (by show min (v*10+((c.toNat:Int)-48)) 1001<=1001;omega)
 exact a l 0 h bH bH
theorem xN(s:ax)(h:0<s.size):s.toList.head?=aQ s[0]:=by have e:=Hd s 0 h;rw[GS,qF]at e;cases a:s.toList with|nil=>(have:=Z6 s;rw[a]at this;simp at this;omega)|cons c r=>rw[a]at e;simpa using e
theorem rR{c:UInt8}{n:Nat}(a:n<256)(h:(c.toNat:Int)=n):c=UInt8.ofNat n:=Zmg
theorem jj0(l:aU)(h:l.head?≠aQ 45):numOf l=if l=[]\/l.all U5=aT\/(l.head?=aQ 48/\l≠[48])then aR else aQ (val l):=by simp only[numOf,Y6,bL h]
theorem jj1(x:aU):numOf (45::x)=if x=[]\/x.all U5=aT\/x.head?=aQ 48 then aR else aQ (-val x):=by simp[numOf,Y6]
theorem No{a b:Int}{x y:Bool}(h:a=b)(k:x=y):Ending.returned (aL #[iI a,aN x])=aH (aL #[iI b,aN y]):=by rw[h,k]
theorem vk(h:numOf l=aR):Ending.returned (aL #[iI 0,af])=aH (aL #[iI ((numOf l).getD 0),aN (numOf l).isSome]):=by rw[h];rfl
theorem xO{v:Int}(h:numOf l=aQ v):Ending.returned (aL #[iI v,ah])=aH (aL #[iI ((numOf l).getD 0),aN (numOf l).isSome]):=by rw[h];rfl
theorem qu8(s:ax)(w:ao)(a:s.size=0):cP 170 #[ai s] w λe w'=>e=aH (aL #[iI ((numOf s.toList).getD 0),aN (numOf s.toList).isSome])/\w'=w:=by
 obtain rfl:s=ay:=O8 ((s6 (by rw[Z6];exact a)).z (by rw[oG];rfl));delta cP;go_in;go_wp2;go_loop [5,6](λn i=>n=iI 0/\i=iI 0)(λ_ _=>0);case atStart=>exact lN
 case round=>obtain⟨rfl,rfl⟩:=hrel;go_wp2;go_ret2;exact lN
theorem qu9(s:ax)(w:ao)(t:s.size<=maxLen)(l:0<s.size)(p:((s[0].toNat:Int)==45)=aT):cP 170 #[ai s] w λe w'=>e=aH (aL #[iI ((numOf s.toList).getD 0),aN (numOf s.toList).isSome])/\w'=w:=by
 unfold maxLen at t;have d:Hid (numOf s.toList=if s.toList=[]\/s.toList.all U5=aT\/(s.toList.head?=aQ 48/\s.toList≠[48])then aR else aQ (val s.toList)):=by apply jj0;rw[xN s l];intro e;rw[eI e]at p;exact absurd p bJ
 have he:s.toList.isEmpty=aT:=by cases h:s.toList with|nil=>(have:=Z6 s;rw[h]at this;simp at this;omega)|cons=>rfl
 have q:Hid (aA s.toList=s.size):=Z6 s;delta cP;go_in;go_wp2;go_loop [5,6](λn i=>∃k:Nat,k<=s.size/\i=iI k/\(s.toList.take k).all U5=aS/\n=iI (val (s.toList.take k)))(λ_ i=>s.size-(intOf i).toNat);case atStart=>exact⟨0,cf _,rfl,rfl,rfl⟩
 case round=>obtain⟨k,_,rfl,g,rfl⟩:=hrel;have hb:=vj _ g;have HA:Hid ((s.toList.take k).all U5=aS):=g;clear g;by_cases a:k<s.size;{have u:Hid (val (s.toList.take (k+1))=min (val (s.toList.take k)*10+((s[k].toNat:Int)-48)) 1001):=Nn s k a;go_wp2;all_goals first|(go_ret2;refine⟨vk ? _,rfl⟩;rw[d.o,bO];exact Or.inr (Or.inl (C3 s U5 k a MI)))|(refine⟨⟨k+1,bH,bW,He s U5 k a HA MI,jQ (Value.int .i64) ? _⟩,ch⟩;rw[u.o];omega)};have hw:s.toList.take k=s.toList:=C2 s k bH;have m:Hid (val (s.toList.take k)=val s.toList):=by{rw[hw];exact rfl};have r:Hid (s.toList.all U5=aS):=ZjS;have j:Hid (s.toList.head?=aQ s[0]):=xN s l;clear hw HA;by_cases xP:((s[0].toNat:Int)==48)=aS;{by_cases v:1<(s.size:Int);{go_wp2;go_ret2;refine⟨vk ? _,rfl⟩;rw[d.o,bO];refine Or.inr (Or.inr ⟨? _,? _⟩);rw[j.o,rR (c:=s[0]) (n:=48) bH UB];rfl;intro e;have:=q.o;rw[e]at this;exact nJ};go_wp2;go_ret2;refine⟨(No m rfl).z (xO ? _),rfl⟩;have b:=q.o;have h3:=j.o;have f:=r.o;rw[d.o,bL];rintro(e|e|⟨_,e⟩);exact Zee;rw[f]at e;exact Cs;apply e;match hl:s.toList,b,h3 with|[],b,_=>{simp at b;omega}|[c],_,h3=>{simp at h3;rw[h3,rR (c:=s[0]) (n:=48) bH UB];rfl}|_::_::_,b,_=>simp at b;omega};go_wp2;go_ret2;refine⟨(No m rfl).z (xO ? _),rfl⟩;have h3:=j.o;have f:=r.o;rw[d.o,bL];rintro(e|e|⟨e,_⟩);exact Zee;rw[f]at e;exact Cs;exact Zkc
theorem qv0(s:ax)(w:ao)(v:s.size<=maxLen)(m:0<s.size)(hm:((s[0].toNat:Int)==45)=aS):cP 170 #[ai s] w λe w'=>e=aH (aL #[iI ((numOf s.toList).getD 0),aN (numOf s.toList).isSome])/\w'=w:=by
 unfold maxLen at v;obtain⟨x,f⟩:∃x,s.extract 1 s.size=x:=⟨_,rfl⟩;have b:s.toList=45::x.toList:=by have h3:=xN s m;rw[rR (c:=s[0]) (n:=45) bH MJ]at h3;rw[<-f,Lib.extract_toList,<-oG,cZ ZcY];match b:s.toList,h3 with|c::r,h3=>simp at h3;rw[h3];rfl
 have d:Hid (numOf s.toList=if x.toList=[]\/x.toList.all U5=aT\/x.toList.head?=aQ 48 then aR else aQ (-val x.toList)):=by rw[b];exact jj1 _
 have l:Hid (aA x.toList=x.size):=Z6 x;have p:x.size<=2^63-1:=by have h1:=Z6 s;have D:=Z6 x;rw[b]at h1;exact xz
 have C:Hid (s.extract 1 s.size=x):=f;clear b f;delta cP;go_in;go_wp2;rw[C.o];go_loop [5,6](λn i=>∃k:Nat,k<=x.size/\i=iI k/\(x.toList.take k).all U5=aS/\n=iI (val (x.toList.take k)))(λ_ i=>x.size-(intOf i).toNat);case atStart=>exact⟨0,cf _,rfl,rfl,rfl⟩
 case round=>obtain⟨k,_,rfl,g,rfl⟩:=hrel;have hb:=vj _ g;have HA:Hid ((x.toList.take k).all U5=aS):=g;clear g;by_cases a:k<x.size;{have z:Hid (val (x.toList.take (k+1))=min (val (x.toList.take k)*10+((x[k].toNat:Int)-48)) 1001):=Nn x k a;go_wp2;all_goals first|(go_ret2;refine⟨vk ? _,rfl⟩;rw[d.o,bO];exact Or.inr (Or.inl (C3 x U5 k a MI)))|(refine⟨⟨k+1,bH,bW,He x U5 k a HA MI,jQ (Value.int .i64) ? _⟩,ch⟩;rw[z.o];omega)};have hw:x.toList.take k=x.toList:=C2 x k bH;have y:Hid (val (x.toList.take k)=val x.toList):=by{rw[hw];exact rfl};have B:Hid (x.toList.all U5=aS):=ZjS;clear hw HA;by_cases u:0<x.size;{have j:Hid (x.toList.head?=aQ x[0]):=xN x u;have he:x.toList.isEmpty=aT:=by{cases h:x.toList with|nil=>(have:=l.o;rw[h]at this;simp at this;omega)|cons=>rfl};by_cases xP:((x[0].toNat:Int)==48)=aS;{go_wp2;all_goals go_ret2;refine⟨vk ? _,rfl⟩;rw[d.o,bO];refine Or.inr (Or.inr ? _);rw[j.o,rR (c:=x[0]) (n:=48) bH UB];rfl};go_wp2;go_ret2;refine⟨(No (by rw[y.o]) rfl).z (xO ? _),rfl⟩;have h3:=j.o;have q:=B.o;rw[d.o,bL];rintro(e|e|e);exact Zee;rw[q]at e;exact Cs;exact Zkc};have he:x.toList=[]:=s6 (by rw[l.o];omega);have t:x.toList.isEmpty=aS:=by{rw[he];rfl};have A:Hid (x.toList=[]):=he;clear he;go_wp2;go_ret2;refine⟨vk ? _,rfl⟩;rw[d.o,bO];exact Or.inl A
theorem vm(s:ax)(w:ao)(b:s.size<=maxLen):cP 170 #[ai s] w λe w'=>e=aH (aL #[iI ((numOf s.toList).getD 0),aN (numOf s.toList).isSome])/\w'=w:=by by_cases a:0<s.size;by_cases hm:((s[0].toNat:Int)==45)=aS;exact qv0 s w b a hm;exact qu9 s w b a MJ;exact qu8 s w bH
structure Ctx where
 rb:Nat
 tb:Nat
 n:Nat
 tc:Nat
 nb:Nat
 nc:Nat
 N:a6
def oL(w:ao)(a:Nat):Nat->aZ->Prop
 | _,[]=>True
 | i,t::ts=>aE w ⟨a,i*2,aR⟩=aQ (iI t.pos)/\aE w ⟨a,i*2+1,aR⟩=aQ (.string t.bI)/\t.bI.size<=600/\oL w a (i+1) ts
def rS(w:ao)(a:Nat)(N:a6):Prop :=
 ∀ i x,N[i]?=aQ x->aE w ⟨a,i*3,aR⟩=aQ (.string x.name)/\aE w ⟨a,i*3+1,aR⟩=aQ (iI x.ar)/\0<=x.ar/\x.ar<=3
structure Rd(w:World)(c:Ctx)(ts:aZ)(d err pl:Int):Prop where
 wf:TW ts
 kL:0<=d
 pX:d<=30
 vo:¬c.tb=c.rb
 Np:¬c.nb=c.rb
 dW:c.tb<w.heap.size
 qM:c.nb<w.heap.size
 cL:aA c.N<=20
 names:rS w c.nb c.N
 here:∃ i:Nat,i+aA ts=c.n/\c.n<=601/\oL w c.tb i ts /\
  w.heap[c.rb]?=aQ (.cells #[.slice (sA c.tb) c.n c.tc,iI i,iI d,.slice (sA c.nb) (aA c.N) c.nc,iI err,iI pl] 288)
theorem z7{t:TypeId}(h:w.heap[b]?=ad cs t)(o:Nat):aE w (aD b o)=cs[o]?:=by simp[World.cell?,h]
theorem Q9{t:TypeId}(h:w.heap[b]?=ad cs t)(o:Nat):w.frozen? (aD b o)=aT:=by simp[World.frozen?,h]
theorem Dc{t:TypeId}(h:w.heap[b]?=ad cs t)(c a d:Nat):w.frozen? (aD b c)=aT/\w.frozen? (aD b a)=aT/\w.frozen? (aD b d)=aT:=⟨Q9 h c,Q9 h a,Q9 h d⟩
theorem dX{t:TypeId}(h:w.heap[b]?=ad cs t)(a c:Nat):aE w (aD b a)=cs[a]?/\w.frozen? (aD b c)=aT:=⟨z7 h a,Q9 h c⟩
theorem Zek{t:TypeId}(h:w.heap[b]?=ad cs t)(a e d f c:Nat):aE w (aD b a)=cs[a]?/\w.frozen? (aD b e)=aT/\w.frozen? (aD b d)=aT/\w.frozen? (aD b f)=aT/\w.frozen? (aD b c)=aT:=⟨z7 h a,Q9 h e,Q9 h d,Q9 h f,Q9 h c⟩
theorem db{t:TypeId}(h:w.heap[b]?=ad cs t)(a c:Nat):aE w (aD b a)=cs[a]?/\aE w (aD b c)=cs[c]?:=⟨z7 h a,z7 h c⟩
theorem xQ{t:TypeId}(h:w.heap[b]?=ad cs t)(a c d:Nat):aE w (aD b a)=cs[a]?/\aE w (aD b c)=cs[c]?/\w.frozen? (aD b d)=aT:=⟨z7 h a,z7 h c,Q9 h d⟩
theorem ik{t:TypeId}(h:w.heap[b]?=ad cs t)(a c e d:Nat):aE w (aD b a)=cs[a]?/\aE w (aD b c)=cs[c]?/\w.frozen? (aD b e)=aT/\w.frozen? (aD b d)=aT:=⟨z7 h a,z7 h c,Q9 h e,Q9 h d⟩
theorem dT{t:TypeId}(h:w.heap[b]?=ad cs t)(a d c:Nat):aE w (aD b a)=cs[a]?/\aE w (aD b d)=cs[d]?/\aE w (aD b c)=cs[c]?:=⟨z7 h a,z7 h d,z7 h c⟩
theorem Nq{t:TypeId}(h:w.heap[b]?=ad cs t)(a d c f e:Nat):aE w (aD b a)=cs[a]?/\aE w (aD b d)=cs[d]?/\aE w (aD b c)=cs[c]?/\w.frozen? (aD b f)=aT/\w.frozen? (aD b e)=aT:=⟨z7 h a,z7 h d,z7 h c,Q9 h f,Q9 h e⟩
theorem pY{t:TypeId}(h:w.heap[b]?=ad cs t)(a d c f e g:Nat):aE w (aD b a)=cs[a]?/\aE w (aD b d)=cs[d]?/\aE w (aD b c)=cs[c]?/\w.frozen? (aD b f)=aT/\w.frozen? (aD b e)=aT/\w.frozen? (aD b g)=aT:=⟨z7 h a,z7 h d,z7 h c,Q9 h f,Q9 h e,Q9 h g⟩
theorem dR{t:TypeId}(h:w.heap[b]?=ad cs t)(a e d c:Nat):aE w (aD b a)=cs[a]?/\aE w (aD b e)=cs[e]?/\aE w (aD b d)=cs[d]?/\aE w (aD b c)=cs[c]?:=⟨z7 h a,z7 h e,z7 h d,z7 h c⟩
theorem Zel{t:TypeId}(h:w.heap[b]?=ad cs t)(a e d c g f:Nat):aE w (aD b a)=cs[a]?/\aE w (aD b e)=cs[e]?/\aE w (aD b d)=cs[d]?/\aE w (aD b c)=cs[c]?/\w.frozen? (aD b g)=aT/\w.frozen? (aD b f)=aT:=⟨z7 h a,z7 h e,z7 h d,z7 h c,Q9 h g,Q9 h f⟩
theorem dF{t:TypeId}(h:w.heap[b]?=ad cs t)(a e d c i g j f:Nat):aE w (aD b a)=cs[a]?/\aE w (aD b e)=cs[e]?/\aE w (aD b d)=cs[d]?/\aE w (aD b c)=cs[c]?/\w.frozen? (aD b i)=aT/\w.frozen? (aD b g)=aT/\w.frozen? (aD b j)=aT/\w.frozen? (aD b f)=aT:=⟨z7 h a,z7 h e,z7 h d,z7 h c,Q9 h i,Q9 h g,Q9 h j,Q9 h f⟩
theorem Nr{t:TypeId}(h:w.heap[b]?=ad cs t)(a f e c d:Nat):aE w (aD b a)=cs[a]?/\aE w (aD b f)=cs[f]?/\aE w (aD b e)=cs[e]?/\aE w (aD b c)=cs[c]?/\aE w (aD b d)=cs[d]?:=⟨z7 h a,z7 h f,z7 h e,z7 h c,z7 h d⟩
theorem qN{t:TypeId}(h:w.heap[b]?=ad cs t)(a g f c e d:Nat):aE w (aD b a)=cs[a]?/\aE w (aD b g)=cs[g]?/\aE w (aD b f)=cs[f]?/\aE w (aD b c)=cs[c]?/\aE w (aD b e)=cs[e]?/\aE w (aD b d)=cs[d]?:=⟨z7 h a,z7 h g,z7 h f,z7 h c,z7 h e,z7 h d⟩
theorem xR{t:TypeId}(h:w.heap[b]?=ad cs t)(a g f c e d m l n i k j:Nat):aE w (aD b a)=cs[a]?/\aE w (aD b g)=cs[g]?/\aE w (aD b f)=cs[f]?/\aE w (aD b c)=cs[c]?/\aE w (aD b e)=cs[e]?/\aE w (aD b d)=cs[d]?/\w.frozen? (aD b m)=aT/\w.frozen? (aD b l)=aT/\w.frozen? (aD b n)=aT/\w.frozen? (aD b i)=aT/\w.frozen? (aD b k)=aT/\w.frozen? (aD b j)=aT:=⟨z7 h a,z7 h g,z7 h f,z7 h c,z7 h e,z7 h d,Q9 h m,Q9 h l,Q9 h n,Q9 h i,Q9 h k,Q9 h j⟩
theorem X6{t:TypeId}(h:w.heap[b]?=ad cs t)(o:Nat)(v:au):(w.setCell (aD b o) v).heap[b]?=ad (cs.setIfInBounds o v) t:=by simp[World.setCell,Array.getElem?_modify,h]
theorem oL.ext{w w':ao}{S:aj}{a:Nat}(h:q9 S w w')(hb:a<w.heap.size)(b:¬S a):∀{ts:aZ}{i:Nat},oL w a i ts->oL w' a i ts|[],_,_=>dQ|_::_,_,ht=>⟨(h.cell (p:=(aD a _)) hb b).z ht.1,(h.cell (p:=(aD a _)) hb b).z ht.2.1,ht.2.2.1,oL.ext h hb b ht.2.2.2⟩
theorem rS.ext{w':ao}{S:aj}{a:Nat}{N:a6}(h:q9 S w w')(hb:a<w.heap.size)(d:¬S a)(c:rS w a N):rS w' a N:=λi x b=>⟨(h.cell (p:=(aD a _)) hb d).z (c i x b).1,(h.cell (p:=(aD a _)) hb d).z (c i x b).2.1,(c i x b).2.2⟩
end
theorem VQ(r:aU)(c:UInt8):val (r++[c])=min (val r*10+((c.toNat:Int)-48)) 1001:=by rw[val,GQ];rfl
theorem Ns{c:UInt8}(_h:48<=(c.toNat:Int))(n:Nat)(a:(n:Int)=(c.toNat:Int)-48):C5 n=c:=by unfold C5;have e:48+n=c.toNat:=bH;exact MN
theorem Nt(r:aU)(hd:r.all U5=aS)(a:r≠[])(g:r.head?≠aQ 48):1<=val r:=by
 obtain⟨c,q,rfl⟩:∃c q,r=c::q:=by cases r with|nil=>(exact absurd rfl a)|cons c q=>exact⟨c,q,rfl⟩
 simp only[List.all_cons,jk]at hd;obtain⟨m,f⟩:=hd;have d:¬(c.toNat:Int)=48:=by intro e;apply g;rw[rR (c:=c) (n:=48) bH e];rfl
 simp[U5]at m;have b:∀(l:aU)(v:Int),l.all U5=aS->1<=v->1<=l.foldl (λv c=>min (v*10+((c.toNat:Int)-48)) 1001) v:=by intro l;induction l with|nil=>(intro v _ h;exact h)|cons x l k=>intro v hd h;simp only[List.all_cons,Bool.and_eq_true]at hd;obtain⟨j,i⟩:=hd;simp[U5]at j;exact k _ i (by show 1<=min (v*10+((x.toNat:Int)-48)) 1001;omega)
 unfold val;exact b q _ f (by show 1<=min (0*10+((c.toNat:Int)-48)) 1001;omega)
theorem VR(f:Nat):∀r:aU,r.all U5=aS->r≠[]->(r.head?=aQ 48->r=[48])->val r<=1000->val r<10^(f+1)->pW f (val r).toNat=r:=by induction f with|zero=>(intro r hd g hz j i;rcases List.eq_nil_or_concat r with rfl|⟨q,c,rfl⟩;exact absurd rfl g;rw[List.concat_eq_append]at*;rw[List.all_append,Bool.and_eq_true]at hd;obtain⟨h,l⟩:=hd;simp[U5]at l;have hb:=vj q h;rw[VQ]at j i⊢;by_cases xS:q=[];subst xS;have k:val []=0:=rfl;rw[k]at*;rw[pW,Ns (c:=c) bH _ bH];rfl;have d:q.head?≠aQ 48:=Zhl;have:=Nt q h xS d;simp at i;omega)|succ f o=>intro r hd g hz j i;rcases List.eq_nil_or_concat r with rfl|⟨q,c,rfl⟩;exact absurd rfl g;rw[List.concat_eq_append]at*;rw[List.all_append,Bool.and_eq_true]at hd;obtain⟨h,l⟩:=hd;simp[U5]at l;have hb:=vj q h;rw[VQ]at j i⊢;by_cases xS:q=[];subst xS;have k:val []=0:=rfl;rw[k]at*;rw[pW,if_pos bH,Ns (c:=c) bH _ bH];rfl;have d:q.head?≠aQ 48:=Zhl;have n:=Nt q h xS d;have p:min (val q*10+((c.toNat:Int)-48)) 1001=val q*10+((c.toNat:Int)-48):=bH;rw[p]at j i⊢;have m:val q<10^(f+1):=by{rw[Int.pow_succ]at i;omega};have e:=o q h xS (λe=>absurd e d) bH m;have d1:(val q*10+((c.toNat:Int)-48)).toNat/10=(val q).toNat:=bH;rw[pW,if_neg bH,d1,e,Ns (c:=c) bH _ bH]
theorem Nu{l:aU}{v:Int}(h:numOf l=aQ v)(o:-1000<=v)(n:v<=1000):itoa v=l:=by
 unfold numOf at h;split at h;exact zA;rename_i hc;have hd:(Y6 l).all U5=aS:=ZhB;have c:Y6 l≠[]:=λe=>hc (Or.inl e);have g:(Y6 l).head?=aQ 48->l=[48]:=by intro e;cases hq:decide (l=[48])with|true=>(exact pN hq)|false=>exact absurd (Or.inr (Or.inr ⟨e,of_decide_eq_false hq⟩)) hc
 have hb:=vj _ hd;by_cases d:l.head?=aQ 45;rw[bO d]at h;have j:=eI h;have i:Y6 l=l.tail:=by rw[Y6,bO d]
 have f:(Y6 l).head?≠aQ 48:=by intro e;rw[g e]at d;exact absurd d bJ
 have k:=Nt _ hd c f;rw[itoa,bO bH];have m:(-v).toNat=(val (Y6 l)).toNat:=bH;rw[m,VR 3 _ hd c (λe=>absurd e f) bH bH,i];cases l with|nil=>(exact absurd d bK)|cons a b=>simp at d;rw[d];rfl
 rw[bL d]at h;have j:=eI h;have i:Y6 l=l:=by rw[Y6,bL d]
 rw[i]at hd c g hb j;rw[itoa,bL bH,<-j,VR 3 _ hd c g bH bH]
section
open Go.RowKit
theorem VS(s:ax)(h:0<s.size):(s.extract 0 1).toList=[s[0]]:=by rw[Lib.extract_toList,<-oG];have a:=xN s h;cases b:s.toList with|nil=>(rw[b]at a;exact absurd a bK)|cons c r=>rw[b]at a;simp at a;simp[a]
theorem VT(s:ax):(s.extract 1 s.size).toList=s.toList.tail:=by rw[Lib.extract_toList,<-oG,cZ ZcY];cases s.toList<;>rfl
theorem jc8(s:ax)(w:ao)(j:s.size<=maxLen):cP 221 #[ai s,ai ⟨#[45]⟩] w λe w'=>∃X:ax,e=aH (aL #[ai X,aN (decide (s.toList.head?=aQ 45))])/\X.toList=Y6 s.toList/\X.size<=s.size/\w=w':=by
 unfold maxLen at j;have l:(ByteArray.mk #[45]).size=1:=rfl;by_cases i:0<s.size;{have d:=xN s i;cases hq:(s[0]==45)with|true=>(have a:s[0]=45:=fo.1 hq;have k:((s.extract 0 1).toList==[45])=aS:=by{rw[VS s i,a];rfl};have f:Hid (decide (s.toList.head?=aQ 45)=aS):=by{show _=_;rw[d,a];rfl};have c:Hid (Y6 s.toList=s.toList.tail):=by{show _=_;rw[Y6,bO (by rw[d,a])]};clear d hq a;delta cP;go_in;go_wp2;go_ret2;rw[f.o,c.o];exact⟨s.extract 1 s.size,rfl,VT s,by rw[<-Z6,VT s,List.length_tail,Z6];omega,rfl⟩)|false=>have a:¬s[0]=45:=mI;have k:((s.extract 0 1).toList==[45])=aT:=by{rw[VS s i];cases h:([s[0]]==[45])with|false=>(rfl)|true=>exact absurd pJ a};have b:¬s.toList.head?=aQ 45:=by{rw[d];simpa using a};have f:Hid (decide (s.toList.head?=aQ 45)=aT):=by{show _=_;simpa using b};have c:Hid (Y6 s.toList=s.toList):=by{show _=_;rw[Y6,bL b]};clear d hq a b;delta cP;go_in;go_wp2;go_ret2;rw[f.o,c.o];exact⟨s,rfl,rfl,cj _,rfl⟩};have g:s.toList=[]:=s6 UJ;have f:Hid (decide (s.toList.head?=aQ 45)=aT):=by show _=_;rw[g];rfl
 have c:Hid (Y6 s.toList=s.toList):=by show _=_;rw[g];rfl
 clear g;delta cP;go_in;go_wp2;go_ret2;rw[f.o,c.o];exact⟨s,rfl,rfl,cj _,rfl⟩
theorem jr0(s:ax)(w:ao)(g:s.size<=maxLen)(hd:s.toList.all U5=aS):cP 222 #[ai s] w λe w'=>e=aH (iI (val s.toList))/\w=w':=by
 unfold maxLen at g;have f:=q8 hd;clear hd;delta cP;go_in;go_wp2;go_loop [3,7](λn i=>∃k:Nat,k<=s.size/\i=iI k/\n=iI (val (s.toList.take k)))(λ_ i=>s.size-(intOf i).toNat);case atStart=>exact MD
 case round=>obtain⟨k,_,rfl,rfl⟩:=hrel;have a:(s.toList.take k).all U5=aS:=by{cases c:(s.toList.take k).all U5 with|true=>(rfl)|false=>have:=Vv c;rw[f.o]at this;exact absurd this bJ};have hb:=vj _ a;clear a;by_cases b:k<s.size;{have h:Hid (val (s.toList.take (k+1))=min (val (s.toList.take k)*10+((s[k].toNat:Int)-48)) 1001):=Nn s k b;have d:48<=(s[k].toNat:Int)/\(s[k].toNat:Int)<=57:=by{cases c:U5 s[k]with|true=>(simpa[U5]using c)|false=>have:=C3 s U5 k b c;rw[f.o]at this;exact absurd this bJ};obtain⟨_,_⟩:=d;go_wp2;refine⟨⟨k+1,bH,bW,jQ (Value.int .i64) ? _⟩,ch⟩;rw[h.o];exact pK};go_wp2;go_ret;rw[C2 s k bH];exact lN
theorem Nv(s:ax)(w:ao)(u:s.size<=maxLen):cP 215 #[ai s] w λe w'=>e=aH (aL #[iI ((numOf s.toList).getD 0),aN (numOf s.toList).isSome])/\w=w':=by
 obtain⟨m,q⟩:∃m,decide (s.toList.head?=aQ 45)=m:=⟨_,rfl⟩;have x:Hid (∀w,cP 221 #[ai s,ai ⟨#[45]⟩] w λe w'=>∃X:ax,e=aH (aL #[ai X,aN m])/\X.toList=Y6 s.toList/\X.size<=s.size/\w=w'):=by intro w;have:=jc8 s w u;rw[q]at this;exact dC
 have p:Hid (numOf s.toList=if Y6 s.toList=[]\/(Y6 s.toList).all U5=aT\/((Y6 s.toList).head?=aQ 48/\s.toList≠[48])then aR else aQ (if m=aS then -val (Y6 s.toList)else val (Y6 s.toList))):=by show _=_;rw[numOf,<-q];simp
 obtain⟨_,A⟩:=bM q u;unfold maxLen at u;clear q;delta cP;go_in;go_wp2_with fail;refine(x _).I ? _;rintro e w' ⟨X,rfl,r,v,rfl⟩;rw[<-r]at p;have C:=q8 r;clear r x;have i:X.size<=maxLen:=dm v A;have HA:=q8 (VO X 48 57);cases eK:X.toList.isEmpty with|true=>(go_wp2_with fail;go_ret2;refine⟨vk ? _,rfl⟩;rw[p.o,bO (Or.inl GA)])|false=>have o:0<X.size:=by{cases h:X.size with|zero=>(have:=Z6 X;rw[h]at this;rw[s6 this]at eK;exact absurd eK bJ)|succ=>omega};cases a:X.toList.all U5 with|false=>(have b:Hid (∀w,cP 102 #[ai X,.int .u8 48,.int .u8 57] w λe w'=>e=aH (af)/\w=w'):=by{intro w;have g:=HA.o w i;rw[show X.toList.all (tB 48 57)=aT from a]at g;exact g};have d:=q8 a;clear a HA;go_wp2_with(go_at_call 102;refine(b.o _).I ? _;rintro e w' ⟨rfl,rfl⟩);go_ret2;refine⟨vk ? _,rfl⟩;rw[p.o,bO (Or.inr (Or.inl d.o))])|true=>have b:Hid (∀w,cP 102 #[ai X,.int .u8 48,.int .u8 57] w λe w'=>e=aH (ah)/\w=w'):=by{intro w;have g:=HA.o w i;rw[show X.toList.all (tB 48 57)=aS from a]at g;exact g};obtain⟨d,z⟩:=bM a (xN X o);have hb:=vj X.toList a;have f:=q8 (λw=>jr0 X w i a);clear a HA;have j:(¬(X.toList.head?=aQ 48/\s.toList≠[48]))->numOf s.toList=aQ (if m=aS then -val X.toList else val X.toList):=by{intro B;rw[p.o,bL];rintro(e|e|e);rw[e]at eK;exact absurd eK bJ;rw[d.o]at e;exact Cs;exact B e};have l:=q8 j;clear j;cases xP:((X[0].toNat:Int)==48)with|true=>(have t:Hid (X.toList.head?=aQ 48):=by{show _=_;rw[z.o,rR (c:=X[0]) (n:=48) bH UB];rfl};cases y:(s.toList==[48])with|false=>(go_wp2_with(go_at_call 102;refine(b.o _).I ? _;rintro e w' ⟨rfl,rfl⟩);go_ret2;refine⟨vk ? _,rfl⟩;rw[p.o,bO (Or.inr (Or.inr ⟨t.o,by simpa using y⟩))])|true=>have k:=q8 (l.o (λh=>h.2 (fo.1 y)));cases m with|true=>((go_wp2_with first|(go_at_call 102;refine(b.o _).I ? _;rintro e w' ⟨rfl,rfl⟩)|(go_at_call 222;refine(f.o _).I ? _;rintro e w' ⟨rfl,rfl⟩));go_ret2;exact⟨xO k.o,rfl⟩)|false=>(go_wp2_with first|(go_at_call 102;refine(b.o _).I ? _;rintro e w' ⟨rfl,rfl⟩)|(go_at_call 222;refine(f.o _).I ? _;rintro e w' ⟨rfl,rfl⟩));go_ret2;exact⟨xO k.o,rfl⟩)|false=>have k:=q8 (l.o (λh=>by have g:=h.1;rw[z.o]at g;rw[eI g]at xP;exact absurd xP bJ));cases m with|true=>((go_wp2_with first|(go_at_call 102;refine(b.o _).I ? _;rintro e w' ⟨rfl,rfl⟩)|(go_at_call 222;refine(f.o _).I ? _;rintro e w' ⟨rfl,rfl⟩));go_ret2;exact⟨xO k.o,rfl⟩)|false=>(go_wp2_with first|(go_at_call 102;refine(b.o _).I ? _;rintro e w' ⟨rfl,rfl⟩)|(go_at_call 222;refine(f.o _).I ? _;rintro e w' ⟨rfl,rfl⟩));go_ret2;exact⟨xO k.o,rfl⟩
end
end Go.Proofs.YtegbdaffhpiacaaGreatDoor
