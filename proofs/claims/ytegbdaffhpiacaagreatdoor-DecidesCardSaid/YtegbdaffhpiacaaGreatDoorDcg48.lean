/- Part. -/
import Derived.Laws.AppendOwnNone
import Derived.Laws.MakeOwn
import Derived.Lib.SliceRun
import Derived.Handed
import Derived.MakeChecks
import Derived.Test.YtegbdaffhpiacaaGreatDoorDcg47
set_option maxRecDepth 10000
set_option maxHeartbeats 400000
namespace Go.Proofs.YtegbdaffhpiacaaGreatDoor
open Go.RowKit Ar
section
open Go.Proofs.Tryz
variable{w w':ao}{b i a j b2 n k:Nat}{v v2:au}{l m:List (BitVec 64)}{S:aj}{x:BitVec 64}
structure WS(w:World)(b:Nat)(v:Value)(l:List (BitVec 64)):Prop where
 own:w.ownsRow 0 195 1 v l.length (l.map u64)
 ne:l≠[]
 aL:v.ownBlock=some b
theorem WS.pos(h:WS w b v l):0<l.length:=List.length_pos_iff.2 h.ne
theorem WS.shape(h:WS w b v l):∃cap a,v=az b l.length cap/\l.length<=cap/\w.heap[b]?=ad a 195:=by have f:=h.pos;rcases h.own.2 with⟨_,_⟩|⟨_,cap,a,c,_,d,e,_⟩;omega;have hb:=h.aL;rw[c]at hb;simp[Value.ownBlock]at hb;subst hb;exact⟨cap,a,c,e,d⟩
theorem WS.lt(h:WS w b v l):b<w.heap.size:=(h.own.lt b h.aL).2
theorem WS.ext(h:WS w b v l)(d:q9 S w w')(c:¬S b):WS w' b v l:=⟨j8 h.own d (λ_ a=>by rw[h.aL]at a;simp at a;rw[<-a];exact c),h.ne,h.aL⟩
theorem WS.cell(h:WS w b v l)(c:l[i]?=some x):w.cell? (aD b i)=some (u64 x):=by obtain⟨_,_,d,_,_⟩:=h.shape;have e:=(aX.1 c).1;have a:=h.own;rw[d]at a;rw[a.cellAt i aA];simp[c]
theorem WS.set(h:WS w b v l)(m:i<l.length)(y:BitVec 64):WS (w.setCell (aD b i) (u64 y)) b v (l.set i y):=by obtain⟨cap,_,j,_,_⟩:=h.shape;refine⟨?_,λe=>h.ne (by simpa using congrArg List.length e),h.aL⟩;rcases h.own.2 with⟨_,e⟩|⟨_,_,c,a,hb,g,d,k,f,Wg⟩;omega;rw[j]at a;simp at a;obtain⟨rfl,rfl⟩:=a;rw[List.length_set,List.map_set];refine⟨aC,.inr ⟨b,cap,c.setIfInBounds i (u64 y),j,hb,X6 g i _,d,k,by simpa using f,?_⟩⟩;exact Zis
theorem Wh(x:BitVec 64):x.toNat=0↔x=0:=by constructor;intro e;apply BI;exact my;rintro rfl;simp
theorem CL{m:Nat}(c:a<18446744073709551616)(b:m<18446744073709551616):bits .and .u64 (a:Int) (m:Int)=((a&&&m:Nat):Int):=by have h:=Ma (BitVec.ofNat 64 a) (BitVec.ofNat 64 m);rw[BitVec.toNat_and,Fm,Fm,yI c,yI b]at h;exact h
theorem zG(b:a<18446744073709551616):IntKind.u64.wrap (a:Int)=(a:Int):=by have h:=y7 (BitVec.ofNat 64 a);rw[Fm,yI b]at h;exact h
theorem jW5{z:Nat}(b:z<18446744073709551616):bits .and .i64 (wrap64 (z:Int)) 127=((z%128:Nat):Int):=by
 have a:BitVec.ofInt 64 (wrap64 (z:Int))=BitVec.ofNat 64 z:=by apply BI;unfold wrap64;exact aM
 show IntKind.i64.wrap ((BitVec.ofInt 64 (wrap64 (z:Int))&&&BitVec.ofInt 64 127).toNat:Int)=_;rw[a,BitVec.toNat_and,Fm,yI b,show(BitVec.ofInt 64 127).toNat=2^7-1 from rfl,Nat.and_two_pow_sub_one_eq_mod];have:z%2^7<128:=Nat.mod_lt _ aE;exact ZcN
theorem Wi(x:BitVec 64):cP 209 #[u64 x] w λe w'=>∃n:Nat,e=.returned (iI n)/\(n=0↔x=0)/\n<=127/\w'=w:=by
 unfold u64;have u:=x.isLt;obtain⟨hb,i⟩:=jQ7 u;obtain⟨n,q⟩:∃n,n=x.toNat:=⟨_,rfl⟩;rw[<-q]at hb i u;obtain⟨a,p⟩:∃a,a=s1 0x5555555555555555 n:=⟨_,rfl⟩;obtain⟨b,h⟩:∃b,b=s2 0x3333333333333333 a:=⟨_,rfl⟩;obtain⟨c,y⟩:∃c,c=s3 0x0F0F0F0F0F0F0F0F b:=⟨_,rfl⟩;have l:yQ n=c:=by unfold yQ;rw[<-p,<-h,<-y]
 rw[l]at hb i;unfold yR at hb i;have v:a<18446744073709551616:=by rw[p];unfold s1;have:=Nat.and_le_right (n:=n/2) (m:=0x5555555555555555);have:=Nat.and_le_right (n:=n) (m:=0x5555555555555555);omega
 have B:b<7378697629483820648:=by rw[h];unfold s2;have:=Nat.and_le_right (n:=a/4) (m:=0x3333333333333333);have:=Nat.and_le_right (n:=a) (m:=0x3333333333333333);omega
 have I:IntKind.u64.wrap (bits .and .u64 ((n:Int)/2) 6148914691236517205+bits .and .u64 (n:Int) 6148914691236517205)=(a:Int):=by have j:=CL (a:=n/2) (m:=6148914691236517205) aA aA;have k:=CL (a:=n) (m:=6148914691236517205) aA aA;have o:((n/2:Nat):Int)=(n:Int)/2:=aA;rw[o]at j;rw[show(6148914691236517205:Int)=((6148914691236517205:Nat):Int)from rfl,j,k,p];rw[p]at v;exact zG v
 have H:IntKind.u64.wrap (bits .and .u64 ((a:Int)/4) 3689348814741910323+bits .and .u64 (a:Int) 3689348814741910323)=(b:Int):=by have j:=CL (a:=a/4) (m:=3689348814741910323) aA aA;have k:=CL (a:=a) (m:=3689348814741910323) aA aA;have o:((a/4:Nat):Int)=(a:Int)/4:=aA;rw[o]at j;rw[show(3689348814741910323:Int)=((3689348814741910323:Nat):Int)from rfl,j,k,h];rw[h]at B;exact zG (a:=s2 3689348814741910323 a) aA
 have J:bits .and .u64 (IntKind.u64.wrap ((b:Int)/16+(b:Int))) 1085102592571150095=(c:Int):=by have j:=zG (a:=b/16+b) aA;have k:=CL (a:=b/16+b) (m:=1085102592571150095) aA aA;have o:((b/16+b:Nat):Int)=(b:Int)/16+(b:Int):=aA;rw[o]at j k;rw[j,show(1085102592571150095:Int)=((1085102592571150095:Nat):Int)from rfl,k,y];rfl
 have G:IntKind.u64.wrap ((c:Int)+(c:Int)/256)=((c+c/256:Nat):Int):=by rw[<-zG (a:=c+c/256) aA];congr 1
 obtain⟨d,hd⟩:∃d,d=c+c/256:=⟨_,rfl⟩;rw[<-hd]at G hb i;have C:IntKind.u64.wrap ((d:Int)+(d:Int)/65536)=((d+d/65536:Nat):Int):=by rw[<-zG (a:=d+d/65536) aA];congr 1
 obtain⟨f,A⟩:∃f,f=d+d/65536:=⟨_,rfl⟩;rw[<-A]at C hb i;have E:IntKind.u64.wrap ((f:Int)+(f:Int)/4294967296)=((f+f/4294967296:Nat):Int):=by rw[<-zG (a:=f+f/4294967296) aA];congr 1
 obtain⟨g,z⟩:∃g,g=f+f/4294967296:=⟨_,rfl⟩;rw[<-z]at E hb i;have D:bits .and .i64 (wrap64 (g:Int)) 127=((g%128:Nat):Int):=jW5 hb;obtain⟨r,t⟩:∃r,r=g%128:=⟨_,rfl⟩;have s:r<=127:=by rw[t];exact Nat.le_of_lt_succ (Nat.mod_lt g aE)
 rw[<-t]at D i;have F:Hid (r=0↔x=0):=by show _↔_;rw[i,q];exact Wh x
 rw[<-q];clear t i hb z A hd l y h p q u v B;delta cP;go_in;go_wp2;go_ret;exact⟨r,rfl,F,s,rfl⟩
theorem Wj:(prog.info? 195).map (λi=>(i.zero,i.size,i.bytes))=some (some (iV 0),1,8):=aG
theorem qM6(n:Nat):madeCells #[iV 0] n=Array.replicate n (iV 0):=Zgs
theorem jJ4(n:Nat)(h:n<=1024)(w:ao):(Instr.makeSlice 136 (iI (n:Int)) (iI (n:Int))).run prog w=.ok (.slice (sA w.heap.size) n n) (w.alloc (.cells (Array.replicate n (iV 0)) 195)):=by obtain⟨d,f,b,c,a⟩:=bJ Wj;have:=run_make (P:=prog) w 136 195 d _ underlying136 f b .i64 .i64 (n:Int) (n:Int) aA (yF _) (by rw[a];omega) aA;rw[this,c];have e:(n:Int).toNat=n:=aA;rw[e,Nat.mul_one];rw[show(iV 0).cells=#[iV 0]from rfl,qM6]
theorem G7(n:Nat)(h:n<=16):cP 124 #[iI n] w λe w'=>∃b v,e=.returned v/\w.heap.size<=b/\eX w w'/\WS w' b v (mP (2^(n-6))):=by
 have c:2^(n-6)<=1024:=oB (n:=2) aE (aA:n-6<=10);have d:0<2^(n-6):=Nat.pos_of_ne_zero aC;have f:wrap64 (2^(max 0 ((n:Int)-6)).toNat)=((2^(n-6):Nat):Int):=by rw[show(max 0 ((n:Int)-6)).toNat=n-6 by omega];have:((2:Int)^(n-6))=((2^(n-6):Nat):Int):=aC;rw[this];unfold wrap64;omega
 have g:=jJ4 (2^(n-6)) c w;obtain⟨k,a⟩:∃k,2^(n-6)=k:=⟨_,rfl⟩;rw[a]at f g c d;rw[a];clear a;delta cP;go_in;go_wp2_with(fail);go_ret;refine⟨w.heap.size,_,rfl,aW _,(rr w).alloc _,?_,?_,rfl⟩;rw[oY];exact⟨by simp[mP],.inr ⟨w.heap.size,k,_,rfl,aY _,aN w _,aW _,bS,aC,by simp[mP,u64]⟩⟩;intro e;have:=jn List.length e;rw[oY]at this;exact pC
theorem Ns(h:WS w b v l)(F:l.length<=1024):cP 126 #[v] w λe w'=>∃r f,e=.returned f/\w.heap.size<=r/\eX w w'/\WS w' r f l:=by
 obtain⟨cap,_,rfl,_,E⟩:=h.shape;have d:=h.pos;have H:=q8 h;clear h E;obtain⟨A,s,i,n,o⟩:=bJ Wj;have y:=Fo (P:=prog) w 136 195 (sA b) l.length cap 0 0 underlying136;delta cP;go_in;go_wp2_with(at_builtin;refine dY _ rfl _ _ 136 rfl 0 195 A (iV 0) 1 8 underlying136 s i n o rfl aE _ 0 [] rfl ?c0 (aD b 0) l.length cap (l.map u64) rfl ?c1 ?c2 ?c3 ?c4 ?c5 (aY _) ?_);case c0=>exact ZbF
 case c1=>simp
 case c2=>intro j u hj;obtain⟨x,D,rfl⟩:∃x,l[j]?=some x/\u64 x=u:=K4;have h2:=(H.ext ((eR w).alloc (.cells #[] 195)) id).cell D;exact ZbB
 case c3=>intro u C;obtain⟨x,_,rfl⟩:=dn.1 C;rfl
 case c4=>exact bS
 case c5=>omega
 intro f _ c a p m;obtain⟨B,HG,HA⟩:=aQ c a m;clear c a p m y s i n o;go_wp2;go_ret;have z:f.ownBlock=some w.heap.size\/f.ownBlock=some (w.heap.size+1):=HA;obtain⟨g,t,q⟩:∃g,f.ownBlock=some g/\w.heap.size<=g:=by rcases z with e|e;exact⟨_,e,aW _⟩;exact⟨_,e,Nat.le_succ _⟩
 refine⟨g,f,rfl,q,?_,by simpa using B.o,λe=>by rw[e]at d;simp at d,t⟩;exact Zjj
theorem jt3(x y:BitVec 64):bits .xor .u64 (x.toNat:Int) (y.toNat:Int)=((x^^^y).toNat:Int):=by show IntKind.wrap .u64 ((BitVec.ofInt 64 (x.toNat:Int)^^^BitVec.ofInt 64 (y.toNat:Int)).toNat:Int)=_;rw[um,um,y7]
theorem jt4(x:BitVec 64):bits .xor .u64 IntKind.u64.max (x.toNat:Int)=((~~~x).toNat:Int):=by have h:=jt3 (BitVec.allOnes 64) x;rw[BitVec.allOnes_xor]at h;exact h
def lU(j:Nat)(l m:List (BitVec 64)):List (BitVec 64):=l.take j++m.drop j
theorem zF1(l m:List (BitVec 64)):lU 0 l m=m:=by simp[lU]
theorem Wk(h:l.length=m.length):lU m.length l m=l:=by simp[lU,<-h]
theorem Wl(h:l.length=m.length)(j:Nat):(lU j l m).length=m.length:=by simp[lU];omega
theorem G8(h:l.length=m.length)(a:j<m.length):(lU j l m)[j]?=m[j]?:=by unfold lU;rw[cB aM];simp[show min j l.length=j by omega]
theorem G9{y:BitVec 64}(h:l.length=m.length)(d:j<m.length)(b:l[j]?=some y):(lU j l m).set j y=lU (j+1) l m:=by apply Fq;intro i;unfold lU;by_cases a:i=j;subst a;rw[List.getElem?_set_self aM,dx aM,qD,aJ aA,b];rw[List.getElem?_set_ne (Ne.symm a)];by_cases c:i<j;rw[dx aM,dx aM,qD,qD,aJ c,aJ aA];rw[cB aM,cB aM];simp only[dd,List.getElem?_drop];exact kv
theorem zH(h:WS w b v l)(u:l.length<=1024):cP 125 #[v] w λe w'=>∃q p,e=.returned p/\w.heap.size<=q/\eX w w'/\WS w' q p (dF l):=by
 obtain⟨_,_,rfl,_,z⟩:=h.shape;obtain⟨s,_⟩:=aH (Ns h u) h;have c:(dF l).length=l.length:=oX l;have HL:=q8 c;have r:=h.pos;clear h z c;delta cP;go_in;go_wp2_with fail;refine s.mono ?_;rintro e _ ⟨b1,_,rfl,qV,m,d⟩;obtain⟨c1,_,rfl,_,n⟩:=d.shape;obtain⟨bG,p8⟩:=aH m d;clear m d n s;go_wp2_with fail;go_loopw [8](λi wr=>∃j:Nat,j<=l.length/\i=iI j/\eX w wr/\WS wr b1 (az b1 l.length c1) (lU j (dF l) l))(λi _=>l.length-(intOf i).toNat);case atStart=>exact RQ
 case round=>obtain⟨j,_,rfl,t,hw⟩:=hrel;obtain⟨HX,y⟩:=aH t hw;clear t;by_cases aZ:j<l.length;{obtain⟨x,f⟩:∃x,l[j]?=some x:=⟨_,aU aZ⟩;have c0:wr.cell? (aD b1 j)=some (iV x.toNat):=hw.cell ((G8 HL aZ).trans f);have A:wr.frozen? (aD b1 j)=false:=RI;have a:=y.set (i:=j) Zcq (~~~x);rw[G9 HL.o aZ (by simp[dF,f])]at a;have g:=q8 a;clear a hw;go_wp2_with fail;all_goals go_roundw;(case measure=>exact bf);case rel=>rw[show(if IntKind.u64.signed=true then(-1:Int)else IntKind.u64.max)=IntKind.u64.max from rfl,jt4];exact⟨j+1,aA,aS,(HX.trans' ((q9.refl (λk=>k=b1) wr).sc b1 j _) (λi _ e=>ZbZ)),g⟩};exact ZcX
theorem CM(h:WS w b v l)(q:WS w b2 v2 m)(p:m.length=l.length)(C:l.length<=1024):cP 91 #[v,v2] w λe w'=>∃u t,e=.returned t/\w.heap.size<=u/\eX w w'/\WS w' u t (l8 l m):=by
 obtain⟨_,_,rfl,_,F⟩:=h.shape;obtain⟨_,_,rfl,_,s⟩:=q.shape;obtain⟨E,G⟩:=aH q p;rw[p];clear q s;obtain⟨A,_⟩:=aH (Ns h C) h;have c:(l8 l m).length=l.length:=sH p;have HL:=q8 c;have z:=h.pos;clear h F c;delta cP;go_in;go_wp2_with fail;refine A.mono ?_;rintro e _ ⟨b1,_,rfl,qV,n,d⟩;obtain⟨c1,_,rfl,_,r⟩:=d.shape;obtain⟨bG,p8⟩:=aH n d;clear n d r A;go_wp2_with fail;go_loopw [10](λi wr=>∃j:Nat,j<=l.length/\i=iI j/\eX w wr/\WS wr b1 (az b1 l.length c1) (lU j (l8 l m) l))(λi _=>l.length-(intOf i).toNat);case atStart=>exact RQ
 case round=>obtain⟨j,_,rfl,B,hw⟩:=hrel;obtain⟨HX,D⟩:=aH B hw;clear B;by_cases aZ:j<l.length;{obtain⟨x,g⟩:∃x,l[j]?=some x:=⟨_,aU aZ⟩;have c0:wr.cell? (aD b1 j)=some (iV x.toNat):=hw.cell ((G8 HL aZ).trans g);have H:wr.frozen? (aD b1 j)=false:=RI;obtain⟨y,f⟩:∃y,m[j]?=some y:=⟨_,aU (by rw[G.o];exact aZ)⟩;have I:wr.cell? (aD b2 j)=some (iV y.toNat):=(E.ext HX id).cell f;clear p;have a:=D.set (i:=j) Zcq (x&&&y);rw[G9 HL.o aZ (by simp[l8,List.getElem?_zipWith,g,f])]at a;have Wm:=q8 a;clear a hw;go_wp2_with fail;go_region;all_goals go_wp2_with fail;go_roundw;(case measure=>exact bf);case rel=>rw[Ma];exact Zj7};exact ZcX
theorem G'(h:WS w b v l)(q:WS w b2 v2 m)(p:m.length=l.length)(C:l.length<=1024):cP 173 #[v,v2] w λe w'=>∃u t,e=.returned t/\w.heap.size<=u/\eX w w'/\WS w' u t (sG l m):=by
 obtain⟨_,_,rfl,_,F⟩:=h.shape;obtain⟨_,_,rfl,_,s⟩:=q.shape;obtain⟨E,G⟩:=aH q p;rw[p];clear q s;obtain⟨A,_⟩:=aH (Ns h C) h;have c:(sG l m).length=l.length:=xx p;have HL:=q8 c;have z:=h.pos;clear h F c;delta cP;go_in;go_wp2_with fail;refine A.mono ?_;rintro e _ ⟨b1,_,rfl,qV,n,d⟩;obtain⟨c1,_,rfl,_,r⟩:=d.shape;obtain⟨bG,p8⟩:=aH n d;clear n d r A;go_wp2_with fail;go_loopw [10](λi wr=>∃j:Nat,j<=l.length/\i=iI j/\eX w wr/\WS wr b1 (az b1 l.length c1) (lU j (sG l m) l))(λi _=>l.length-(intOf i).toNat);case atStart=>exact RQ
 case round=>obtain⟨j,_,rfl,B,hw⟩:=hrel;obtain⟨HX,D⟩:=aH B hw;clear B;by_cases aZ:j<l.length;{obtain⟨x,g⟩:∃x,l[j]?=some x:=⟨_,aU aZ⟩;have c0:wr.cell? (aD b1 j)=some (iV x.toNat):=hw.cell ((G8 HL aZ).trans g);have H:wr.frozen? (aD b1 j)=false:=RI;obtain⟨y,f⟩:∃y,m[j]?=some y:=⟨_,aU (by rw[G.o];exact aZ)⟩;have I:wr.cell? (aD b2 j)=some (iV y.toNat):=(E.ext HX id).cell f;clear p;have a:=D.set (i:=j) Zcq (x|||y);rw[G9 HL.o aZ (by simp[sG,List.getElem?_zipWith,g,f])]at a;have Wm:=q8 a;clear a hw;go_wp2_with fail;go_region;all_goals go_wp2_with fail;go_roundw;(case measure=>exact bf);case rel=>rw[FY];exact Zj7};exact ZcX
def y9(w:ao):Prop:=w.heap[1]?=some (.cells #[iV 0xAAAAAAAAAAAAAAAA,iV 0xCCCCCCCCCCCCCCCC,iV 0xF0F0F0F0F0F0F0F0,iV 0xFF00FF00FF00FF00,iV 0xFFFF0000FFFF0000,iV 0xFFFFFFFF00000000] 336)
theorem Ze9(h:n<9223372036854775808):bits .and .i64 (n:Int) 1=((n%2:Nat):Int):=by have a:BitVec.ofInt 64 (n:Int)=BitVec.ofNat 64 n:=rfl;show IntKind.i64.wrap ((BitVec.ofInt 64 (n:Int)&&&BitVec.ofInt 64 1).toNat:Int)=_;rw[a,BitVec.toNat_and,Fm,yI aA,show(BitVec.ofInt 64 1).toNat=2^1-1 from rfl,Nat.and_two_pow_sub_one_eq_mod];have:n%2^1<2:=Nat.mod_lt _ aE;exact ZcN
theorem jJ5(h:i<1024):bits .and .i64 ((i:Int)/2^k) 1=(if i.testBit k=true then 1 else 0:Int):=by have b:((i:Int)/2^k)=((i/2^k:Nat):Int):=aC;have d:i/2^k<=i:=Nat.div_le_self _ _;rw[b,Ze9 aA,Nat.testBit_eq_decide_div_mod_eq];by_cases c:i/2^k%2=1;simp[c];have a:i/2^k%2=0:=aA;simp[a]
theorem Wn(i a:Nat)(h:i<1024)(j:a<16)(c:y9 w):cP 171 #[iI i,iI a] w λe w'=>e=.returned (u64 (pat i a))/\w'=w:=by by_cases f:a<6;{have l:a=0\/a=1\/a=2\/a=3\/a=4\/a=5:=aA;obtain⟨_,_,_,_,_,_⟩:=pG c 0 1 2 3 4 5;clear c f j;rcases l with rfl|rfl|rfl|rfl|rfl|rfl;all_goals delta cP;go_in;go_wp2;go_ret;exact⟨rfl,rfl⟩};have hb:=jJ5 (k:=a-6) h;have g:6<=a:=aA;clear c f;cases b:i.testBit (a-6)with|true=>(rw[b,aJ rfl]at hb;have d:Hid (pat i a=BitVec.allOnes 64):=by{show _=_;unfold pat;rw[aF aA,aJ b]};clear b;delta cP;go_in;go_wp2;go_ret;exact⟨by rw[d.o];rfl,rfl⟩)|false=>rw[b,aF aE]at hb;have d:Hid (pat i a=0):=by{show _=_;unfold pat;rw[aF aA,aF (by rw[b];decide)]};clear b;delta cP;go_in;go_wp2;go_ret;exact⟨by rw[d.o];rfl,rfl⟩
theorem y9.ext(h:y9 w)(a:q9 S w w')(b:¬S 1):y9 w':=(a.block _ (j9 h) b).trans h
theorem je5(h:j<k):(V5 k a true)[j]?=some (pat j a):=by simp[V5,List.getElem?_map,List.getElem?_range h]
theorem je6(k a:Nat):dF (V5 k a true)=V5 k a false:=by simp[dF,V5]
theorem Wo(n a:Nat)(yes:Bool)(M:n<=16)(O:a<16)(J:y9 w):cP 127 #[iI n,iI a,.bool yes] w λe w'=>∃H G,e=.returned G/\w.heap.size<=H/\eX w w'/\WS w' H G (V5 (2^(n-6)) a yes):=by
 have I:2^(n-6)<=1024:=oB (n:=2) aE (aA:n-6<=10);obtain⟨B,P⟩:=aH (G7 (w:=w) n M) J;obtain⟨k,f⟩:∃k,2^(n-6)=k:=⟨_,rfl⟩;rw[f]at B I;rw[f];clear f J;delta cP;go_in;go_wp2_with fail;refine B.mono ?_;rintro e _ ⟨b1,_,rfl,F,r,g⟩;obtain⟨c1,_,l,C,E⟩:=g.shape;rw[oY]at l C;subst l;obtain⟨bG,p8⟩:=aH r g;have u:Hid ((V5 k a true).length=(mP k).length):=by show _=_;rw[sI,oY]
 clear r g E B;go_wp2_with fail;go_loopw [13](λi wr=>∃j:Nat,j<=k/\i=iI j/\eX w wr/\WS wr b1 (az b1 k c1) (lU j (V5 k a true) (mP k)))(λi _=>k-(intOf i).toNat);case atStart=>exact RQ
 case round=>obtain⟨j,_,rfl,K,hw⟩:=hrel;obtain⟨t,N⟩:=aH K hw;clear K;by_cases d:j<k;{have b:j<(mP k).length:=by{rw[oY];exact d};have c0:wr.cell? (aD b1 j)=some (iV 0):=hw.cell (x:=0) ((G8 u b).trans (by simp[mP,d]));have Q:wr.frozen? (aD b1 j)=false:=RI;have c:=N.set (i:=j) (by rw[Wl u.o];exact b) (pat j a);rw[G9 u.o b (je5 d)]at c;obtain⟨q,D⟩:=aH c (Wn j a aA O (P.ext t id));clear c hw b;go_wp2_with(go_at_call 171;refine D.mono ?_;rintro e L ⟨rfl,rfl⟩;unfold u64);go_roundw;(case measure=>exact bf);case rel=>exact⟨j+1,aA,aS,t.trans' ((q9.refl (λk=>k=b1) L).sc b1 j _) (λi _ e=>ZbZ),q⟩};have p:j=(mP k).length:=by{rw[oY];omega};rw[p,Wk u.o]at hw;have s:=q8 hw;have v:j=k:=aA;have o:(V5 k a true).length<=1024:=by{rw[sI];exact I};have y:=q8 (zH s o);subst v;clear hw p o;cases yes with|true=>(go_wp2_with fail;go_ret;exact⟨b1,_,rfl,F,t.o,s.o⟩)|false=>go_wp2_with fail;refine y.o.mono ?_;rintro e L ⟨b2,v2,rfl,_,h,m⟩;obtain⟨z,A⟩:=aH h m;clear h m;go_wp2_with fail;go_ret;exact⟨b2,v2,rfl,by have:=t.o.size;omega,t.o.trans z.o,by rw[<-je6];exact A.o⟩
def sJ(k:Nat):List (BitVec 64):=dF (mP k)
theorem Wp(h:n<64*k):X0 (sJ k) n=true:=by unfold sJ;rw[xw (by rw[oY];exact h),GX];rfl
theorem Wq(k:Nat):(sJ k).length=k:=by unfold sJ;rw[oX,oY]
theorem Nt(n:Nat)(o:n<=16):cP 90 #[iI n] w λe w'=>∃k j,e=.returned j/\w.heap.size<=k/\eX w w'/\WS w' k j (sJ (2^(n-6))):=by have l:2^(n-6)<=1024:=oB (n:=2) aE (aA:n-6<=10);have m:=q8 (G7 (w:=w) n o);delta cP;go_in;go_wp2_with fail;refine m.mono ?_;rintro e _ ⟨_,_,rfl,_,c,f⟩;obtain⟨g,d⟩:=aH c (zH f (by rw[oY];exact l));clear c f m l;go_wp2_with fail;refine d.mono ?_;rintro e _ ⟨b2,v2,rfl,_,a,b⟩;obtain⟨h,i⟩:=aH a b;clear a b d;go_wp2_with fail;go_ret;exact⟨b2,v2,rfl,by have:=g.o.size;omega,g.trans h,i⟩
theorem Wr(x:BitVec 64):cP 130 #[u64 x] w λe w'=>e=.returned (.bool (!decide (x=0)))/\w'=w:=by
 unfold u64;by_cases h:x=0;{have a:((x.toNat:Int)!=0)=false:=by{rw[h];rfl};delta cP;go_in;go_wp2;go_ret;exact⟨by rw[fS h];rfl,rfl⟩};have a:((x.toNat:Int)!=0)=true:=by have c:x.toNat≠0:=λe=>h ((Wh x).1 e);exact aM
 have b:Hid (decide (x=0)=false):=gj h;clear h;delta cP;go_in;go_wp2;go_ret;exact⟨by rw[b.o];rfl,rfl⟩
theorem qM7(h:WS w b v l)(o:l.length<=1024):cP 174 #[v,.func (.func 130) #[] #[]] w λe w'=>w'=w/\((e=.returned (iI (-1))/\∀x∈l,x=0)\/∃k:Nat,e=.returned (iI k)/\∃x∈l,x≠0):=by
 obtain⟨_,_,rfl,_,m⟩:=h.shape;have H:=q8 h;clear h m;delta cP;go_in;go_wp2;go_loopw [8](λi wr=>∃j:Nat,j<=l.length/\i=iI j/\wr=w/\∀x∈l.take j,x=0)(λi _=>l.length-(intOf i).toNat);case atStart=>exact⟨0,aY _,rfl,rfl,aC⟩
 case round=>obtain⟨j,_,rfl,rfl,g⟩:=hrel;have HZ:=q8 g;clear g;by_cases d:j<l.length;{obtain⟨x,a⟩:∃x,l[j]?=some x:=⟨_,aU d⟩;have c0:=H.cell a;have c:=q8 a;clear a;by_cases hx:x=0;{have HX:=q8 hx;clear hx;go_wp2_with(first|(go_at_call 130;refine(Wr x).mono ?_;rintro e n ⟨rfl,rfl⟩;rw[fS HX.o])|fail);go_roundw;(case measure=>exact bf);case rel=>refine⟨j+1,aA,aS,aC,λy hy=>?_⟩;rw[fR,c.o]at hy;exact ZgU};have HX:=q8 hx;clear hx;go_wp2_with(first|(go_at_call 130;refine(Wr x).mono ?_;rintro e n ⟨rfl,rfl⟩;rw[gj HX.o])|fail);go_ret;exact⟨rfl,.inr ⟨j,rfl,x,bg c,HX⟩⟩};have f:j=l.length:=aA;subst f;go_wp2;go_ret;exact⟨rfl,.inl ⟨rfl,λx hx=>HZ x Zcg⟩⟩
theorem qi5(h:WS w b v l)(d:l.length<=1024):cP 129 #[v,.func (.func 130) #[] #[]] w λe w'=>w'=w/\∃r,e=.returned (.bool r)/\(r=false↔∀x∈l,x=0):=by have f:=q8 (qM7 h d);clear h;delta cP;go_in;go_wp2_with fail;refine f.mono ?_;rintro e _ ⟨rfl,⟨rfl,a⟩|⟨_,rfl,a⟩⟩;{have c:=q8 a;clear a;go_wp2_with fail;go_ret;exact⟨rfl,false,rfl,λ_=>c,λ_=>rfl⟩};have c:=q8 a;clear a;go_wp2_with fail;go_ret;refine⟨rfl,true,rfl,λe=>bI,λe=>?_⟩;obtain⟨x,i,g⟩:=c.o;exact absurd (e x i) g
theorem Ws(h:WS w b v l)(c:l.length<=1024):cP 93 #[v] w λe w'=>w'=w/\∃r,e=.returned (.bool r)/\(r=true↔∀n,n<64*l.length->X0 l n=false):=by have f:=q8 (qi5 h c);clear h;delta cP;go_in;go_wp2_with fail;refine f.mono ?_;rintro e _ ⟨rfl,r,rfl,a⟩;have d:=q8 a;clear a;go_wp2_with fail;go_ret;refine⟨rfl,!r,rfl,?_⟩;rw[<-jC7,<-d.o];simp
def xD(l:List (BitVec 64))(f:Nat->BitVec 64->BitVec 64)(j:Nat):Prop:=∀ i x,i<j->l[i]?=some x->f i x=0
theorem Wt{f:Nat->BitVec 64->BitVec 64}(h:l[j]?=some x):xD l f (j+1)↔xD l f j/\f j x=0:=by constructor;intro b;exact⟨λi y g e=>b i y aA e,b j x aA h⟩;rintro⟨d,c⟩i y g e;by_cases a:i=j;subst a;rw[h]at e;simp at e;subst e;exact c;exact d i y aA e
theorem je7(a:Nat)(h:WS w b v l)(G:l.length<=1024)(D:a<16)(u:y9 w):cP 177 #[v,iI a] w λe w'=>w'=w/\∃y n:Nat,e=.returned (.tuple #[iI y,iI n])/\(y=0↔xD l (λi x=>x&&&pat i a) l.length)/\(n=0↔xD l (λi x=>x&&& ~~~pat i a) l.length):=by
 obtain⟨_,_,rfl,_,E⟩:=h.shape;obtain⟨H,F⟩:=aH h u;clear h E u;delta cP;go_in;go_wp2_with fail;go_loopw [6,7,13](λB nv i wr=>∃j y n:Nat,j<=l.length/\i=iI j/\B=iI y/\nv=iI n/\y<=127*j/\n<=127*j/\wr=w/\(y=0↔xD l (λi x=>x&&&pat i a) j)/\(n=0↔xD l (λi x=>x&&& ~~~pat i a) j))(λ_ _ i _=>l.length-(intOf i).toNat);case atStart=>exact⟨0,0,0,aY _,rfl,rfl,rfl,aA,aA,rfl,⟨λ_ i x C=>aA,λ_=>rfl⟩,⟨λ_ i x C=>aA,λ_=>rfl⟩⟩
 case round=>obtain⟨j,y,n,_,rfl,rfl,rfl,_,_,rfl,t,s⟩:=hrel;obtain⟨z,A⟩:=aH t s;clear t s;by_cases k:j<l.length;{obtain⟨x,c⟩:∃x,l[j]?=some x:=⟨_,aU k⟩;have c0:=H.cell c;have g:=q8 c;unfold u64 at c0;clear c;go_wp2_with(first|(go_at_call 171;refine(Wn j a aA D F).mono ?_;rintro e _ ⟨rfl,rfl⟩;unfold u64)|fail);rw[Ma];refine(Wi (x&&&pat j a)).mono ?_;rintro e _ ⟨p,rfl,f,_,rfl⟩;have o:=q8 f;clear f;go_wp2_with fail;rw[FZ];refine(Wi (x&&& ~~~pat j a)).mono ?_;rintro e _ ⟨q,rfl,d,_,rfl⟩;have r:=q8 d;clear d;go_wp2_with fail;go_roundw;(case measure=>exact bf);case rel=>refine⟨j+1,y+p,n+q,aA,aS,aS,aS,aA,aA,aC,?_,?_⟩;{rw[Wt g.o,<-z.o];have:=o.o;show _↔_/\x&&&pat j a=0;rw[<-this];omega};rw[Wt g.o,<-A.o];have:=r.o;show _↔_/\x&&& ~~~pat j a=0;rw[<-this];omega};have m:j=l.length:=aA;subst m;go_wp2_with fail;go_ret2;exact⟨rfl,y,n,rfl,z,A⟩
theorem Wu(neg:Bool):xD l (λi x=>x&&&(if neg=true then ~~~pat i a else pat i a)) l.length↔∀n,n<64*l.length->X0 l n=true->n.testBit a=neg:=by
 constructor;intro h n k j;obtain⟨x,g,e⟩:=xv k;rw[e]at j;have f:=h (n/64) x (VP k) g;have b:(x&&&(if neg=true then ~~~pat (n/64) a else pat (n/64) a)).getLsbD (n%64)=false:=by have:(x&&&(if neg=true then ~~~pat (n/64) a else pat (n/64) a))=0:=f;rw[this];simp
 have d:=GY n a;rw[BitVec.getLsbD_and,j]at b;cases neg with|true=>(simp only[tG]at b;rw[BitVec.getLsbD_not,d]at b;simpa[show n%64<64 by omega]using b)|false=>simp only[Bool.false_eq_true,if_false]at b;rw[d]at b;simpa using b
 intro h i x _ g;show(x&&&(if neg=true then ~~~pat i a else pat i a))=0;apply BitVec.eq_of_getLsbD_eq;intro c _;have f:=h (64*i+c) aA;have b:=GY (64*i+c) a;rw[zB (x:=x) (by rw[show(64*i+c)/64=i by omega];exact g),show(64*i+c)%64=c by omega]at f;rw[show(64*i+c)/64=i by omega,show(64*i+c)%64=c by omega]at b;rw[BitVec.getLsbD_and];cases hb:x.getLsbD c with|false=>(simp)|true=>have d:=f hb;cases neg with|true=>(simp only[tG];rw[BitVec.getLsbD_not,b,d];simp)|false=>simp only[Bool.false_eq_true,if_false];rw[b,d];simp
theorem Wv(a:Nat)(h:WS w b v l)(d:l.length<=1024)(f:a<16)(c:y9 w):cP 177 #[v,iI a] w λe w'=>w'=w/\∃y n:Nat,e=.returned (.tuple #[iI y,iI n])/\(y=0↔∀x,x<64*l.length->X0 l x=true->x.testBit a=false)/\(n=0↔∀x,x<64*l.length->X0 l x=true->x.testBit a=true):=by refine(je7 a h d f c).mono ?_;rintro e w' ⟨j,y,n,g,k,i⟩;refine⟨j,y,n,g,?_,?_⟩;rw[k,<-Wu false];rfl;rw[i,<-Wu true];rfl
end
section
open Go.Proofs.Tryz Go.ChangeShapes Go.Deep
section
open Go.Joins
theorem Zc3 : Tryz.prog.globalNamed "arbiter/worlds.patterns" = some 1 := by kernel_rfl
theorem Zf0:(prog.globals[1]?).map (·.type)=some 336:=aG
theorem Zf1:prog.cellsOf 195=1:=aG
theorem Zf2:prog.cellsOf 336=6:=aG
def jv9:List Int:=[0xAAAAAAAAAAAAAAAA,0xCCCCCCCCCCCCCCCC,0xF0F0F0F0F0F0F0F0,0xFF00FF00FF00FF00,0xFFFF0000FFFF0000,0xFFFFFFFF00000000]
theorem qO7:((begin prog (λ_ _=>0) default).world.heap[1]?).bind Obj.row?=some (Array.replicate 6 (iV 0),336):=aG
end
section
open Go.WideShapes Go.ChangeAt Go.WideMaps Go.WideElems
theorem own:ownKnob prog.godebug=none:=aG
theorem q9.Zfu{w w':ao}(h:eX w w'):Below w.heap.size w w':=⟨h.os,h.tape,h.output,h.size,λk a=>h.block k a id⟩
theorem qi7{H:Type}{enc:TypeId×au->H}{a:Assume}{C:Checked}{os:Os}{f:FuncId}{n:Func}{s:ChangeSpec}{l:List PathCond}{apart GA d h:Bool}{X:ao->Array au->Prop}(F:∀(w w':ao)(args:Array au),w.heap=w'.heap->X w args->X w' args)(own:ownKnob C.prog.godebug=none)(k:os.Started)(o:C.prog.inits.idxOf? f=none)(B:C.prog.funcs[f]?=some n)(m:∃(w:ao)(b:Tape)(i:Input),w.os=os/\(w.forCall b i).Shaped C.prog/\i.vars=[]/\Input.okWide C.prog (w.forCall b i) .any w.heap.size f i/\((s.pre enc C.prog n l apart (w.forCall b i).memory i.args/\X (w.forCall b i).memory i.args)/\sizedMet enc C.prog n (OpenSpec.ofChange s) apart (w.forCall b i).memory i.args)/\a.holds C.prog (lone (Frame.enter C.prog f i.args .normal) [] (w.forCall b i)))(g:∀(W:ao)(p:Nat)(args:Array au)(y x:List (DataW H))(c:List MemPlace),W.ShapedOpen C.prog->(∀(j:Nat)t v,n.params[j]?=some t->args[j]?=some v->Value.okWide C.prog W .any p t v)->DataW.Whole enc C.prog n.params.toList s.vars apart W args.toList y x c->X W args->Calls C.prog f args W λe E=>∃v,e=.returned v/\s.post enc C.prog n apart GA d h W args v E):ReturnsInHanded a C os f .any (λw args=>(s.pre enc C.prog n l apart w args/\X w args)/\sizedMet enc C.prog n (OpenSpec.ofChange s) apart w args) (s.post enc C.prog n apart GA d h):=by refine returnsInHanded_of_calls own k o m ?_;intro w b i _ A _ z u _;obtain⟨_,_,_,D,r,_,_,_,_,q⟩:=z;obtain rfl:D=n:=dI (r.symm.trans B);obtain⟨⟨⟨y,x,c,G,_⟩,J⟩,_⟩:=u;refine(g (w.forCall b i) w.heap.size i.args y x c A q (DataW.Whole.of_heap (w':=w.forCall b i) (by rfl) G) (F _ _ _ (by rfl) J)).mono λe E ⟨v,K,I⟩=>?_;subst K;exact ChangeSpec.post_blind I
end
end
section
open Go.Proofs.Tryz
variable{sb hb g g1 k m g':Nat}{c c1 c':cm}{tv lv ye yf gZ jB:au}{w w1:ao}{l:List (BitVec 64)}{S:aj}
def Ej(s:St):ak:=[iI s.q,.bool s.yes,.bool s.cr,iU s.aO.a,iU s.aO.b,iU s.aO.c]
def ki(s:St):au:=.agg #[iI s.q,.bool s.yes,.bool s.cr,iU s.aO.a,iU s.aO.b,iU s.aO.c]
def rB(tr:List St):ak:=tr.flatMap Ej
theorem jE1(s:St):(Ej s).length=6:=rfl
theorem jR2(tr:List St)(k:Nat):(rB tr).take (k*6)=rB (tr.take k):=jc7 jE1 tr k
structure yg(w:World)(lv:Value)(m:Nat)(ls:List (List (BitVec 64))):Prop where
 ex:∃ vs:List Value,w.ownsRow 0 136 1 lv ls.length vs/\∀ (k:Nat) (l:List (BitVec 64)),ls[k]?=some l->l.length=m/\∃ b v,vs[k]?=some v/\WS w b v l
def dR(AK:List PA)(tr:List St):List (PA × Bool):=tr.map (fun s=>(ek AK s.q,s.yes))
theorem Ek(AK:List PA)(tr:List St):(dR AK tr).length=tr.length:=by simp[dR]
theorem qI7(AK:List PA)(tr:List St)(k:Nat):dR AK (tr.take k)=(dR AK tr).take k:=by simp[dR]
theorem jE2(AK:List PA)(tr:List St)(s:St):dR AK (tr++[s])=dR AK tr++[(ek AK s.q,s.yes)]:=by simp[dR]
theorem jZ7(AK:List PA)(q:Nat):(ek AK q).at_=jb (AK.map PA.at_) q:=by unfold ek jb;rw[de,gh];cases e:AK[q]? with|none=>(simp[PA.at_,ByteArray.toList_eq])|some x=>rfl
theorem Qg(AK:List PA)(tr:List St):H6 (dR AK tr)=cu (AK.map PA.at_) tr:=by unfold H6 dR cu;rw[List.map_map];apply Fl;intro s _;show((ek AK s.q).at_,s.yes)=_;rw[jZ7]
structure bu(B:Nat)(w:World)(sb hb g:Nat)(c:cm)(TK:List Z7)(AK:List PA)(tw:List (Nat × Nat))(tv lv:Value)(tr:List St)(As:List (PA × Bool))(ls:List (List (BitVec 64)))(TT:List O3):Prop where
 aL:w.heap[sb]?=some (.cells #[.iface 139 (pT hb),iI AK.length,tv,lv] 187)
 row:w.ownsRow 0 250 6 tv tr.length (rB tr)
 lf:yg w lv (2^(AK.length-6)) ls
 th:bC w hb g c TK AK tw As TT
 pat:y9 w
 bp:1<B
 bB:B<=w.heap.size
 bs:B<=sb/\B<=hb/\B<=g
 bv:∀ k,c.sv.ownBlock=some k\/tv.ownBlock=some k\/lv.ownBlock=some k->B<=k
def ly(sb hb g:Nat)(c:cm)(tv lv:au)(k:Nat):Prop:=k=sb\/k=hb\/k=g\/c.sv.ownBlock=some k\/tv.ownBlock=some k\/lv.ownBlock=some k
structure Mv(sb hb g:Nat)(c:cm)(tv lv:Value)(g':Nat)(c':cm)(gZ jB:Value)(w w':World):Prop where
 ext:q9 (ly sb hb g c tv lv) w w'
 new:∀ k,ly sb hb g' c' gZ jB k->ly sb hb g c tv lv k\/w.heap.size<=k
theorem Mv.trans{d:Nat}{c2:cm}{a b:au}{f:ao}(h:Mv sb hb g c tv lv g1 c1 ye yf w w1)(k:Mv sb hb g1 c1 ye yf d c2 a b w1 f):Mv sb hb g c tv lv d c2 a b w f:=by have j:=h.ext.size;refine⟨h.ext.trans' k.ext (λi _ e=>?_),λi e=>?_⟩;rcases h.new i e with e|e;exact e;omega;rcases k.new i e with e|e;exact h.new i e;exact wA
theorem Mv.quiet{w':ao}(h:eX w w'):Mv sb hb g c tv lv g c tv lv w w':=⟨h.M,λ_ e=>.inl e⟩
theorem Mv.eL(h:Mv sb hb g c tv lv g1 c1 ye yf w w1){o:Obj}(b:w.heap[k]?=some o)(d:¬ly sb hb g c tv lv k):w1.heap[k]?=some o/\¬ly sb hb g1 c1 ye yf k:=by have a:=j9 b;refine⟨(h.ext.block k a d).trans b,λe=>?_⟩;rcases h.new k e with e|e;exact d e;omega
section
variable{B:Nat}{w w':ao}{sb hb g:Nat}{c:cm}{TK:List Z7}{AK:List PA}{tw:List (Nat × Nat)}{tv lv:au}{tr:List St}{As:List (PA × Bool)}{ls:List (List (BitVec 64))}{TT:List O3}
theorem WS.vJ{b:Nat}{v:au}(h:WS w b v l):∃a,w.heap[b]?=ad a 195:=by obtain⟨_,a,_,_,h⟩:=h.shape;exact⟨a,h⟩
theorem yg.ext(h:yg w lv m ls)(d:q9 S w w')(o:∀k,lv.ownBlock=some k->¬S k)(j:∀k a,w.heap[k]?=ad a 195->¬S k):yg w' lv m ls:=by obtain⟨vs,g,f⟩:=h.ex;refine⟨vs,j8 g d o,λk l i=>?_⟩;obtain⟨e,b,v,n,c⟩:=f k l i;obtain⟨a,p⟩:=c.vJ;exact⟨e,b,v,n,c.ext d (j b a p)⟩
theorem bu.ext(h:bu B w sb hb g c TK AK tw tv lv tr As ls TT)(a:eX w w'):bu B w' sb hb g c TK AK tw tv lv tr As ls TT:=⟨a.K h.aL,j8 h.row a (λ_ _ f=>f),h.lf.ext a (λ_ _ f=>f) (λ_ _ _ f=>f),h.th.ext a (λ_ _ f=>f),h.pat.ext a id,h.bp,cM h.bB a.size,h.bs,h.bv⟩
theorem bu.apart(h:bu B w sb hb g c TK AK tw tv lv tr As ls TT)(d:k=hb\/k=g\/c.sv.ownBlock=some k):¬k=sb/\¬tv.ownBlock=some k/\¬lv.ownBlock=some k/\∀a,¬w.heap[k]?=ad a 195:=by
 obtain⟨_,m,_⟩:=h.lf.ex;have f:=h.th.aL;obtain⟨_,C,_,j,_⟩:=h.th.tb.ex;have b:∀{k:Nat}{C:Array au}{t:TypeId},w.heap[k]?=ad C t->t≠187->t≠250->t≠136->t≠195->¬k=sb/\¬tv.ownBlock=some k/\¬lv.ownBlock=some k/\∀a,¬w.heap[k]?=ad a 195:=by intro k C t d n o i l;refine⟨λe=>?_,K8 h.row d (λe=>o e.symm),K8 m d (λe=>i e.symm),λa e=>?_⟩;subst e;have:=h.aL;rw[d]at this;simp at this;exact n this.2;rw[d]at e;simp at e;exact l e.2
 rcases d with e|e|e;subst e;exact b f aE aE aE aE;subst e;exact b j aE aE aE aE;obtain⟨a,p⟩:=O4 h.th.ss e;exact b p aE aE aE aE
theorem bu.ZaB{b:List (PA×Bool)}{d:List O3}(h:bu B w sb hb g c TK AK tw tv lv tr As ls TT)(f:q9 (λk=>k=hb\/k=g\/c.sv.ownBlock=some k) w w')(m:bC w' hb g' c' TK AK tw b d)(p:g'=g\/w.heap.size<=g')(o:∀k,c'.sv.ownBlock=some k->c.sv.ownBlock=some k\/w.heap.size<=k):bu B w' sb hb g' c' TK AK tw tv lv tr b ls d:=by have l:=h.bB;obtain⟨j,n,_⟩:=h.bs;refine⟨(f.block _ (j9 h.aL) (λe=>(h.apart e).1 rfl)).trans h.aL,j8 h.row f (λk a e=>(h.apart e).2.1 a),h.lf.ext f (λk a e=>(h.apart e).2.2.1 a) (λk i q e=>(h.apart e).2.2.2 i q),m,h.pat.ext f (λe=>?_),h.bp,cM l f.size,⟨j,n,?_⟩,λk a=>?_⟩;have r:=h.bp;rcases e with e|e|e;omega;omega;have:=h.bv _ (.inl e);omega;rcases p with e|e<;>omega;rcases a with e|e|e;rcases o k e with e|e;exact h.bv k (.inl e);omega;exact ZcC;exact ZcD
theorem El{a:Option Addr}{n cap b:Nat}(h:(Value.slice a n cap).ownBlock=some k):(Value.slice a m b).ownBlock=some k:=by cases a with|none=>(simp[Value.ownBlock]at h)|some c=>simpa[Value.ownBlock]using h
theorem bu.ZaC{a:List St}(h:bu B w sb hb g c TK AK tw tv lv tr As ls TT)(b:q9 (λk=>k=sb\/tv.ownBlock=some k) w w')(m:w'.heap[sb]?=ad #[.iface 139 (pT hb),iI AK.length,gZ,lv] 187)(i:w'.ownsRow 0 250 6 gZ a.length (rB a))(d:∀k,gZ.ownBlock=some k->tv.ownBlock=some k\/w.heap.size<=k):bu B w' sb hb g c TK AK tw gZ lv a As ls TT:=by
 have l:=h.bB;have j:∀k,(k=hb\/k=g\/c.tv.ownBlock=some k\/c.av.ownBlock=some k\/c.wv.ownBlock=some k\/c.sv.ownBlock=some k)->¬(k=sb\/tv.ownBlock=some k):=by intro k hk e;have key:∀{C:Array au}{t:TypeId},w.heap[k]?=ad C t->t≠187->t≠250->False:=by{intro C t h1 n1 n;rcases e with e|e;exact ZhB;exact K8 h.row h1 (λq=>n q.symm) e};exact ZiV
 obtain⟨_,f,_⟩:=h.lf.ex;refine⟨m,i,h.lf.ext b (λk hk e=>?_) (λk cur hc e=>?_),h.th.ext b j,h.pat.ext b (λe=>?_),h.bp,cM l b.size,h.bs,λk hk=>?_⟩;rcases e with e|e;subst e;exact K8 f h.aL aE hk;obtain⟨cur,hc⟩:=O4 h.row e;exact K8 f hc aE hk;rcases e with e|e;exact ZcR;exact K8 h.row hc aE e;have o:=h.bp;rcases e with e|e;have:=h.bs.1;omega;have:=h.bv _ (.inr (.inl e));omega;rcases hk with e|e|e;exact h.bv k (.inl e);rcases d k e with e|e;exact ZcC;omega;exact ZcD
theorem bu.Qh{a:List (List (BitVec 64))}(h:bu B w sb hb g c TK AK tw tv lv tr As ls TT)(b:q9 (λk=>k=sb\/lv.ownBlock=some k) w w')(m:w'.heap[sb]?=ad #[.iface 139 (pT hb),iI AK.length,tv,jB] 187)(i:yg w' jB (2^(AK.length-6)) a)(d:∀k,jB.ownBlock=some k->lv.ownBlock=some k\/w.heap.size<=k):bu B w' sb hb g c TK AK tw tv jB tr As a TT:=by
 have l:=h.bB;obtain⟨_,f,_⟩:=h.lf.ex;have j:∀k,(k=hb\/k=g\/c.tv.ownBlock=some k\/c.av.ownBlock=some k\/c.wv.ownBlock=some k\/c.sv.ownBlock=some k)->¬(k=sb\/lv.ownBlock=some k):=by intro k hk e;have key:∀{C:Array au}{t:TypeId},w.heap[k]?=ad C t->t≠187->t≠136->False:=by{intro C t h1 n1 n;rcases e with e|e;exact ZhB;exact K8 f h1 (λq=>n q.symm) e};exact ZiV
 refine⟨m,j8 h.row b (λk hk e=>?_),i,h.th.ext b j,h.pat.ext b (λe=>?_),h.bp,cM l b.size,h.bs,λk hk=>?_⟩;rcases e with e|e;subst e;exact K8 h.row h.aL aE hk;obtain⟨cur,hc⟩:=O4 f e;exact K8 h.row hc aE hk;have o:=h.bp;rcases e with e|e;have:=h.bs.1;omega;have:=h.bv _ (.inr (.inr e));omega;rcases hk with e|e|e;exact h.bv k (.inl e);exact ZcC;rcases d k e with e|e;exact ZcD;omega
theorem bu.lt(h:bu B w sb hb g c TK AK tw tv lv tr As ls TT)(a:ly sb hb g c tv lv k):k<w.heap.size/\B<=k:=by obtain⟨b,f,i⟩:=h.bs;obtain⟨_,d,_⟩:=h.lf.ex;obtain⟨_,_,_,j,_⟩:=h.th.tb.ex;rcases a with e|e|e|e|e|e;subst e;exact⟨j9 h.aL,b⟩;subst e;exact⟨j9 h.th.aL,f⟩;subst e;exact⟨j9 j,i⟩;exact⟨(h.th.ss.lt k e).2,h.bv k (.inl e)⟩;exact⟨(h.row.lt k e).2,h.bv k (.inr (.inl e))⟩;exact⟨(d.lt k e).2,h.bv k (.inr (.inr e))⟩
theorem bu.Qi(h:bu B w sb hb g c TK AK tw tv lv tr As ls TT)(a:Mv sb hb g c tv lv g' c' gZ jB w w'):Below B w w':=by refine⟨a.ext.os,a.ext.tape,a.ext.output,a.ext.size,λk _=>a.ext.block k (by have:=h.bB;omega) (λe=>?_)⟩;have:=(h.lt e).2;omega
theorem bu.aside(h:bu B w sb hb g c TK AK tw tv lv tr As ls TT)(j:q9 S w w')(m:∀k,S k->¬ly sb hb g c tv lv k/\∃C t,w.heap[k]?=ad C t/\t≠195/\t≠145/\t≠153/\t≠151/\t≠336):bu B w' sb hb g c TK AK tw tv lv tr As ls TT:=by
 have l:∀k,ly sb hb g c tv lv k->¬S k:=λk d e=>(m k e).1 d;have b:∀k C t,w.heap[k]?=ad C t->(t=195\/t=145\/t=153\/t=151\/t=336)->¬S k:=by intro k C t d o e;obtain⟨_,_,_,f,r,s,p,q,n⟩:=m k e;rw[d]at f;simp at f;obtain⟨_,rfl⟩:=f;rcases o with e|e|e|e|e;exact r e;exact s e;exact p e;exact q e;exact n e
 refine⟨(j.block _ (j9 h.aL) (l sb (.inl rfl))).trans h.aL,j8 h.row j (λk d=>l k (.inr (.inr (.inr (.inr (.inl d)))))),h.lf.ext j (λk d=>l k (.inr (.inr (.inr (.inr (.inr d)))))) (λk a i=>b k a _ i (.inl rfl)),h.th.ext j (λk d=>?_),h.pat.ext j (b _ _ _ h.pat (.inr (.inr (.inr (.inr rfl))))),h.bp,cM h.bB j.size,h.bs,h.bv⟩;rcases d with e|e|e|e|e|e;exact l k (.inr (.inl e));exact l k (.inr (.inr (.inl e)));obtain⟨a,i⟩:=O4 h.th.ts e;exact b k a _ i (.inr (.inl rfl));obtain⟨a,i⟩:=O4 h.th.eU e;exact b k a _ i (.inr (.inr (.inl rfl)));obtain⟨a,i⟩:=O4 h.th.tw e;exact b k a _ i (.inr (.inr (.inr (.inl rfl))));exact l k (.inr (.inr (.inr (.inl e))))
theorem bu.below(h:bu B w sb hb g c TK AK tw tv lv tr As ls TT)(a:q9 S w w')(b:∀k,k<w.heap.size->S k->k=sb\/k=hb\/k=g\/c.sv.ownBlock=some k\/tv.ownBlock=some k\/lv.ownBlock=some k):Below B w w':=by refine⟨a.os,a.tape,a.output,a.size,λk _=>a.block k (by have:=h.bB;omega) (λe=>?_)⟩;obtain⟨_,_,_⟩:=h.bs;have d:=h.bB;rcases b k aA e with e|e|e|e|e|e;omega;omega;omega;have:=h.bv k (.inl e);omega;have:=h.bv k (.inr (.inl e));omega;have:=h.bv k (.inr (.inr e));omega
end
section
variable{B:Nat}{w w':ao}{sb hb g:Nat}{c:cm}{TK:List Z7}{AK:List PA}{tw:List (Nat × Nat)}{tv lv:au}{tr:List St}{As:List (PA × Bool)}{ls:List (List (BitVec 64))}{TT:List O3}
theorem yg.at_(h:yg w lv m ls)(e:ls[k]?=some l):∃c cap b v,lv=az c ls.length cap/\w.cell? (aD c k)=some v/\WS w b v l/\l.length=m:=by obtain⟨_,d,j⟩:=h.ex;obtain⟨i,b,v,n,f⟩:=j k l e;have g:=(aX.1 e).1;rcases d.2 with⟨_,_⟩|⟨c,cap,_,a,_⟩;omega;rw[a]at d;exact⟨c,cap,b,v,a,(d.cellAt k aA).trans n,f,i⟩
theorem Qj(h:bu B w sb hb g c TK AK tw tv lv tr As ls TT)(j:ls[ls.length-1]?=some l)(q:ls.length<=1000):cP 176 #[pT sb] w λe w'=>∃b v,e=.returned v/\WS w b v l/\l.length=2^(AK.length-6)/\w'=w.drew:=by have k:=h.aL;obtain⟨_,_,b,v,f,r,m,d⟩:=h.lf.at_ j;have i:=(aX.1 j).1;obtain⟨n,a⟩:∃n,ls.length=n+1:=⟨ls.length-1,aA⟩;rw[a,rT]at r;rw[f,a]at k;have c3:=z7 k 3;have p:=q8 m;have o:n<=1000:=aA;clear h k f m j i a q;delta cP;go_in;go_wp2;go_region;go_wp2;go_ret;exact⟨b,v,rfl,p,d,rfl⟩
theorem zV3(h:bu B w sb hb g c TK AK tw tv lv tr As ls TT)(t:AK.length<=16)(s:St)(r:s.q<16):cP 178 #[pT sb,ki s] w λe w'=>∃b v,e=.returned v/\w.heap.size<=b/\eX w w'/\WS w' b v (V5 (2^(AK.length-6)) s.q s.yes):=by have k:=h.aL;have c1:=z7 k 1;have l:Hid (∀W,eX w W->cP 127 #[iI AK.length,iI s.q,.bool s.yes] W λe w'=>∃n m,e=.returned m/\W.heap.size<=n/\eX W w'/\WS w' n m (V5 (2^(AK.length-6)) s.q s.yes)):=λW f=>Wo AK.length s.q s.yes t r (h.pat.ext f id);obtain⟨V,hV⟩:∃V,w.alloc (.cells #[iI s.q,.bool s.yes,.bool s.cr,iU s.aO.a,iU s.aO.b,iU s.aO.c] 250)=V:=⟨_,rfl⟩;have d:eX w V:=By;have o:V.heap[w.heap.size]?=ad #[iI s.q,.bool s.yes,.bool s.cr,iU s.aO.a,iU s.aO.b,iU s.aO.c] 250:=Bn;have c1:=z7 (d.K k) 1;obtain⟨_,_⟩:=cz o 0 1;have p:=j9 k;have i:=q8 hV;have a:eX w V.drew:=d.drew;clear h k o hV d;unfold ki;delta cP;go_in;go_wp2;rw[i.o];clear i;go_region_law (go_simp;go_wp2_with(go_at_call 127;refine(l _ a).mono ?_;rintro e _ ⟨b,v,rfl,hb,f,j⟩;have q:=q8 (And.intro hb (And.intro f j));clear hb f j));all_goals go_wp2;go_ret;obtain⟨hb,f,j⟩:=q.o;exact⟨b,v,rfl,cM a.size hb,a.trans f,j⟩
end
section
variable{B:Nat}{w w':ao}{sb hb g:Nat}{c:cm}{TK:List Z7}{AK:List PA}{tw:List (Nat × Nat)}{tv lv:au}{tr:List St}{As:List (PA × Bool)}{ls:List (List (BitVec 64))}{TT:List O3}
theorem bu.step(h:bu B w sb hb g c TK AK tw tv lv tr As ls TT){s:St}(d:tr[k]?=some s):∃a cap,tv=az a tr.length cap/\a<w.heap.size/\w.cell? ⟨a,k*6,none⟩=some (iI s.q)/\w.cell? ⟨a,k*6+1,none⟩=some (.bool s.yes)/\w.cell? ⟨a,k*6+2,none⟩=some (.bool s.cr)/\w.cell? ⟨a,k*6+3,none⟩=some (iU s.aO.a)/\w.cell? ⟨a,k*6+4,none⟩=some (iU s.aO.b)/\w.cell? ⟨a,k*6+5,none⟩=some (iU s.aO.c):=by have f:=(aX.1 d).1;rcases h.row.2 with⟨_,_⟩|⟨a,cap,_,e,_,i,_⟩;omega;have b:=h.row;rw[e]at b;have q:∀j u,(Ej s)[j]?=some u->(rB tr)[k*6+j]?=some u:=λj u l=>WD jE1 d l;exact⟨a,cap,e,j9 i,(b.cellAt (k*6) aA).trans (q 0 _ rfl),(b.cellAt (k*6+1) aA).trans (q 1 _ rfl),(b.cellAt (k*6+2) aA).trans (q 2 _ rfl),(b.cellAt (k*6+3) aA).trans (q 3 _ rfl),(b.cellAt (k*6+4) aA).trans (q 4 _ rfl),(b.cellAt (k*6+5) aA).trans (q 5 _ rfl)⟩
theorem qJ4(h:bu B w sb hb g c TK AK tw tv lv tr As ls TT)(m:M3)(A:X8 tr.length m):cP 135 #[pT sb,m.val] w λe w'=>eX w w'/\∃r,e=.returned (.bool r)/\(r=true->(∀k,m.has k=false)\/∃p s,m.has p=true/\(∀j,m.has j=true->j<=p)/\tr[p]?=some s/\s.q<AK.length)/\(r=false->∃p s,m.has p=true/\(∀j,m.has j=true->j<=p)/\tr[p]?=some s/\AK.length<=s.q):=by obtain⟨t,H,z⟩:=aQ (M4 m) h A;unfold M3.val at t⊢;clear h A;delta cP;go_in;go_wp2_with fail;refine(t _).mono ?_;rintro e _ ⟨a,⟨rfl,f⟩|⟨k,rfl,o,b⟩⟩;{have l:=q8 (((eR w).alloc _).trans a);have D:=q8 f;clear a f;go_wp2_with fail;go_region;go_wp2_with fail;go_ret;exact⟨l.drew,true,rfl,λ_=>.inl D,λe=>bI⟩};have x:=((eR w).alloc _).trans a;have q:=H.ext x;have n:=z k o;obtain⟨s,v⟩:∃s,tr[k]?=some s:=⟨_,aU n⟩;obtain⟨_,_,i,_,_,_⟩:=q.step v;have y:=q.aL;rw[i]at y;obtain⟨_,_⟩:=cz y 1 2;obtain⟨l,d⟩:=aH x (And.intro o (And.intro b v));clear x a q o b v y i H z t;by_cases C:s.q<AK.length;{have u:decide ((s.q:Int)<(AK.length:Int))=true:=fS aA;go_wp2_with fail;go_region;go_wp2_with fail;go_ret;exact⟨l.drew,true,aC,λ_=>.inr ⟨k,s,d.1,d.2.1,d.2.2,C⟩,λe=>bI⟩};have u:decide ((s.q:Int)<(AK.length:Int))=false:=gj aA;go_wp2_with fail;go_region;go_wp2_with fail;go_ret;exact⟨l.drew,false,aC,λe=>bI,λ_=>⟨k,s,d.1,d.2.1,d.2.2,aA⟩⟩
end
end
end Go.Proofs.YtegbdaffhpiacaaGreatDoor
