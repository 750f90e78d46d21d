/- Part. -/
import Derived.Test.YtegbdaffhpiacaaGreatDoorAl24
set_option maxRecDepth 100000
set_option maxHeartbeats 1000000
open Go.Ending renaming returned->aH
open List renaming length->aA
open Go.Obj renaming cells->aG
open Option renaming none->aR,some->aQ
open Go.Value renaming ownBlock->aB,slice->aI
open Go.World renaming cell?->aE,ownsRow->aC
namespace Go.Proofs.YtegbdaffhpiacaaGreatDoor
open Tryz
open Go.RowKit Go.Maps Ar
variable{n b sb j i:Nat}{x:Nd}{y:Int}{S:aj}{w w' w2 W:ao}{R:au->Option (DataW Unit×List MemPlace)}{D:DataW Unit}{nv:au}{xs:PX}{T T' ps:aY}
def Sm(n:Int):Prop := -1000000000<=n/\n<=1000000000
structure Z7.Ok(k:Z7):Prop where
 nm:k.nm.size<=1000
 ar:Sm k.ar
 a0:Sm k.a0
 a1:Sm k.a1
 a2:Sm k.a2
 v:Sm k.v
structure U1.Ok(k:U1):Prop where
 wd:k.wd.size<=1000
 i:Sm k.i
 j:Sm k.j
 b:Sm k.b
theorem AD{n:Int}(h:Sm n):(Lit.int .i64 n).wf=true:=by obtain⟨_,_⟩:=h;simp[Lit.wf,IntKind.min,IntKind.max,IntKind.signed,IntKind.bits];omega
theorem OW:prog.cellsOf 142=2:=bS
theorem D5:prog.cellsOf 3=1:=bS
theorem Ys:prog.cellsOf 9=1:=bS
theorem OX:prog.cellsOf 143=3:=bS
theorem Yt:prog.cellsOf 151=2:=bS
theorem Yu:prog.cellsOf 145=6:=bS
theorem Yv:prog.cellsOf 153=4:=bS
theorem vU(d:Nat){n:Int}(h:Sm n):prog.keyLits (d+1) 3 [.int .i64 n]=aQ [.int .i64 n]:=by unfold Program.keyLits;simp[underlying3,AD h]
theorem Yw(d:Nat){s:ByteArray}(h:s.size<=1000):prog.keyLits (d+1) 9 [.string s]=aQ [.string s.data.toList]:=by unfold Program.keyLits;simp[underlying9];exact cN
theorem Yx(d:Nat){s:ByteArray}{n:Int}(h:s.size<=1000)(hn:Sm n):prog.keyLits (d+2) 142 [.string s,.int .i64 n]=aQ [.string s.data.toList,.int .i64 n]:=by unfold Program.keyLits;simp[underlying142,OW,D5,Ys,vU d hn,Yw d h]
theorem Yy(d:Nat){x z:Int}(b:Sm x)(a:Sm y)(c:Sm z):prog.keyLits (d+2) 143 [.int .i64 x,.int .i64 y,.int .i64 z]=aQ [.int .i64 x,.int .i64 y,.int .i64 z]:=by unfold Program.keyLits;simp[underlying143,OX,D5,CG,vU d b,vU d a,vU d c]
theorem jL3(d:Nat){x:Int}(a:Sm x)(b:Sm y):prog.keyLits (d+2) 151 [.int .i64 x,.int .i64 y]=aQ [.int .i64 x,.int .i64 y]:=by unfold Program.keyLits;simp[underlying151,Yt,D5,CG,vU d a,vU d b]
theorem jL4(d:Nat){k:Z7}(h:k.Ok):∃ls,prog.keyLits (d+3) 145 k.cells=aQ ls:=by unfold Program.keyLits;simp[Z7.cells,underlying145,Yu,OW,OX,D5,Yx d h.nm h.ar,Yy d h.a0 h.a1 h.a2,vU (d+1) h.v]
theorem jL5(d:Nat){k:U1}(h:k.Ok):∃ls,prog.keyLits (d+3) 153 k.cells=aQ ls:=by unfold Program.keyLits;simp[U1.cells,underlying153,Yv,Ys,Yt,D5,Yw (d+1) h.wd,jL3 d h.i h.j,vU (d+1) h.b]
theorem OY:∃d,prog.types.size+1=d+3:=⟨prog.types.size-2,by have:2<=prog.types.size:=pN bS;omega⟩
theorem jX3{k:Z7}(h:k.Ok):∃l,keyOf prog 145 k.val=aQ l:=by
 obtain⟨d,hd⟩:=OY;obtain⟨ls,hl⟩:=jL4 d h;refine⟨.string (keyBytes ls),?_⟩;have hc:k.val.cells.toList=k.cells:=rfl;have OZ:prog.keyType 145=true:=bS;have hf:k.val.formed prog 145=true:=by simp[Z7.val,Value.formed,underlying145,Yu]
 unfold keyOf;rw[underlying145];exact Zct
theorem jX4{k:U1}(h:k.Ok):∃l,keyOf prog 153 k.val=aQ l:=by
 obtain⟨d,hd⟩:=OY;obtain⟨ls,hl⟩:=jL5 d h;refine⟨.string (keyBytes ls),?_⟩;have hc:k.val.cells.toList=k.cells:=rfl;have OZ:prog.keyType 153=true:=bS;have hf:k.val.formed prog 153=true:=by simp[U1.val,Value.formed,underlying153,Yv]
 unfold keyOf;rw[underlying153];exact Zct
theorem se:Keyed prog 145:=Keyed.of_law (deep_law_laid bS (m:=4) bH (pN bS) bS bS)
theorem sf:Keyed prog 153:=Keyed.of_law (deep_law_laid bS (m:=4) bH (pN bS) bS bS)
noncomputable def mY(k:Z7):Lit:=(keyOf prog 145 k.val).getD (.bool false)
noncomputable def mZ(k:U1):Lit:=(keyOf prog 153 k.val).getD (.bool false)
theorem D6{k:Z7}(h:k.Ok):keyOf prog 145 k.val=aQ (mY k):=by obtain⟨_,a⟩:=jX3 h;rw[mY,a];rfl
theorem D7{k:U1}(h:k.Ok):keyOf prog 153 k.val=aQ (mZ k):=by obtain⟨_,a⟩:=jX4 h;rw[mZ,a];rfl
theorem Yz{x y:Z7}(c:x.Ok)(b:y.Ok)(h:mY x=mY y):x=y:=by have a:=D6 b;rw[<-h]at a;have e:=se.inj (D6 c) a;cases x;cases y;simp[Z7.val]at e;simp[e]
theorem YA{x y:U1}(c:x.Ok)(b:y.Ok)(h:mZ x=mZ y):x=y:=by have a:=D7 b;rw[<-h]at a;have e:=sf.inj (D7 c) a;cases x;cases y;simp[U1.val]at e;simp[e]
def dA:au->Option Nat
 | .map b=>b
 | _=>aR
theorem J8{k:TypeId}(h:w.ownsMap prog k R b n D)(d:q9 S w w')(a:¬S b):w'.ownsMap prog k R b n D:=by obtain⟨es,c,hb,r⟩:=h;exact⟨es,c,(d.block b (j9 hb) a).z hb,r⟩
theorem yv(h:w.mapTurned w' b):q9 (λk=>k=b) w w':=by have a:=h.grown;exact⟨a.os,a.tape,a.output,a.size,λk d c=>a.block k d (λe=>c mK)⟩
open Classical in
noncomputable def qh{α:Type}(K:List α)(x:α):List α:=if x∈K then K else K++[x]
theorem IJ{α:Type}{K:List α}{x:α}(h:x∈K):qh K x=K:=by unfold qh;exact zC
theorem vV{α:Type}{K:List α}{x:α}(h:¬x∈K):qh K x=K++[x]:=by unfold qh;rw[bL h]
theorem yw(w:ao):(zeroValue 3).run prog w=.ok (iI 0) w:=bS
theorem YB{k:TypeId}(h:w.ownsMap prog k R b n D){c:Nat}(e:Maps.size D=c):w.ownsMap prog k R b c D:=by obtain⟨es,a,hb,d,_,rfl⟩:=h;refine⟨es,a,hb,d,?_,rfl⟩;rw[<-e];exact Nat.le_of_eq (length_read (P:=prog) (k:=k) (R0:=R) es).symm
theorem YC(mb:Nat)(W:ao):(binOp BinOp.eql 80 (.map (aQ mb)) (.map aR)).run prog W=.ok (af) W:=bS
theorem qD1(W:ao):(binOp BinOp.eql 80 (.map aR) (.map aR)).run prog W=.ok (ah) W:=bS
structure qZ(w:World)(tv mv:Value)(K:bg):Prop where
 own:aC w 0 145 6 tv (aA K) (K.flatMap Z7.cells)
 nd:K.Nodup
 ok:∀ k∈K,k.Ok
 map:(mv=.map aR/\K=[])\/∃ mb D,mv=.map (aQ mb)/\w.ownsMap prog 145 (plainElem prog 3) mb (aA K) D/\iJ mY Z7.Ok (fun _=>True) K D (aA K)
 sep:∀ g,aB tv=aQ g->¬dA mv=aQ g
theorem qZ.ext{tv mv:au}{K:bg}(h:qZ w tv mv K)(hx:q9 S w w')(h1:∀g,aB tv=aQ g->¬S g)(h2:∀g,dA mv=aQ g->¬S g):qZ w' tv mv K:=ZgP
def D8(w:ao)(sb:Nat)(nv:au)(xs:PX)(K:bg)(x:Z7)(e:Ending)(w':ao):Prop :=
 ∃ (i:Nat) (a b:au),e=aH (iI i)/\(qh K x)[i]?=aQ x/\w'.heap[sb]?=aQ (aG #[nv,a,b,xs.at_,xs.am,xs.fs,xs.ks,xs.vd,xs.ml] 98)/\qZ w' a b (qh K x)/\q9 (fun k=>k=sb\/aB xs.ts=aQ k\/dA xs.tm=aQ k) w w' /\
  (∀ k,aB a=aQ k->aB xs.ts=aQ k\/w.heap.size<=k)/\(∀ k,dA b = aQ k->dA xs.tm=aQ k\/w.heap.size<=k)
theorem YD{w0 f:ao}{mb g c:Nat}{K:bg}{x:Z7}(h:qZ w xs.ts xs.tm K)(hx:x.Ok)(hn:¬x∈K)(l:q9 (λk=>k=sb) w w0)(d:w0.grownBy f (aB xs.ts))(c9:aC f 0 145 6 (az g (aA K+1) c) (aA K+1) (K.flatMap Z7.cells++x.cells))(cu:aB xs.ts=aQ g\/w.heap.size<=g)(n:¬g=mb)(o:¬g=sb)(IK:¬mb=sb)(IL:dA xs.tm=aQ mb\/w.heap.size<=mb)(h2:q9 (λk=>k=sb) f w2)(i:iJ mY Z7.Ok (λ_=>True) K D (aA K))(j:Maps.Tidy D)(YE:W.ownsMap prog 145 (plainElem prog 3) mb (aA K+1) (D.put (mY x) (.lit (.int .i64 (aA K)))))(h3:q9 (λk=>k=mb) w2 W)(kW:w2.heap[sb]?=ad #[nv,(az g (aA K+1) c),(.map (aQ mb)),xs.at_,xs.am,xs.fs,xs.ks,xs.vd,xs.ml] 98):D8 w sb nv xs K x (aH (iI (aA K))) W:=by have hk:WideAt.IsKeyLit (mY x):=se.key (D6 hx);have D9:=Yp i j hk h.ok hx (λ_ m e=>Yz m hx e) hn;have p:=l.size;refine⟨(aA K),az g (aA K+1) c,.map (aQ mb),rfl,?_,?_,⟨?_,?_,?_,?_,?_⟩,?_,?_,?_⟩;rw[vV hn];simp;exact ZjY;exact ZlN;exact Zme;exact Zhu;exact Zjk;exact Zjy;have e1:q9 (λk=>k=sb\/aB xs.ts=aQ k\/dA xs.tm=aQ k) w f:=(l.I (λ_ _ e=>.inl e)).grown d (λk hk _=>.inr (.inl hk));exact Zhn;intro k hk;exact Ub;intro k hk;simp[dA]at hk;subst hk;exact IL
theorem qN7{K:bg}(x:Z7)(kb:w.heap[sb]?=ad #[nv,xs.ts,xs.tm,xs.at_,xs.am,xs.fs,xs.ks,xs.vd,xs.ml] 98)(h:qZ w xs.ts xs.tm K)(hx:x.Ok)(P:∀k,aB xs.ts=aQ k->¬k=sb)(A:∀k,dA xs.tm=aQ k->¬k=sb)(hlen:aA K<=10000000):cP 188 #[.pointer (aQ (aD sb 1)),x.val] w (D8 w sb nv xs K x):=by
 show cP 188 #[.pointer (aQ (aD sb 1)),.agg #[ai x.nm,iI x.ar,iI x.a0,iI x.a1,iI x.a2,iI x.v]] w (D8 w sb nv xs K x);have lB:keyOf prog 145 (.agg #[ai x.nm,iI x.ar,iI x.a0,iI x.a1,iI x.a2,iI x.v])=aQ (mY x):=D6 hx;have E:=q8 lB;clear lB;obtain⟨ts,_,at_,J,N,ks,vd,L⟩:=xs;simp only at kb h P A;have dn:=j9 kb;have dx:Hid (eX w (w.alloc (aG #[ai x.nm,iI x.ar,iI x.a0,iI x.a1,iI x.a2,iI x.v] 145))):=(rr w).alloc _;have yx:Hid ((w.alloc (aG #[ai x.nm,iI x.ar,iI x.a0,iI x.a1,iI x.a2,iI x.v] 145)).heap[w.heap.size]?=ad #[ai x.nm,iI x.ar,iI x.a0,iI x.a1,iI x.a2,iI x.v] 145):=bR w _;by_cases mi:x∈K;obtain⟨i,hi⟩:=GV.1 mi;rcases h.map with⟨_,e⟩|⟨mb,D,I,ho,hm⟩;subst e;exact absurd mi bK;subst I;have gW:∀n,(Instr.lookup 80 (.map (aQ mb)) (.agg #[ai x.nm,iI x.ar,iI x.a0,iI x.a1,iI x.a2,iI x.v]) true).run prog ((w.alloc (aG #[ai x.nm,iI x.ar,iI x.a0,iI x.a1,iI x.a2,iI x.v] 145)).drewN n)=.ok (.tuple #[iI i,ah]) ((w.alloc (aG #[ai x.nm,iI x.ar,iI x.a0,iI x.a1,iI x.a2,iI x.v] 145)).drewN n):=by intro n;have q':=J8 ho (((eR w).alloc (aG #[ai x.nm,iI x.ar,iI x.a0,iI x.a1,iI x.a2,iI x.v] 145)).drewN n) id;obtain⟨v,ps,Ea,hv⟩:=q'.look_ok se CI (yw _) (s' qJ bJ) E;exact ZgZ
 obtain⟨c1,c2⟩:=db kb 1 2;obtain⟨H,KB,HI⟩:=bV h kb hi;have IM:Hid (eX w (w.alloc (aG #[ai x.nm,iI x.ar,iI x.a0,iI x.a1,iI x.a2,iI x.v] 145))):=(rr w).alloc _;exact Zmm;have HX:=q8 hx;obtain⟨fK,_⟩:=bM P A;obtain⟨u,s,O1⟩:∃u s,ts=.slice u (aA K) s:=Zlz;subst O1;rcases h.map with⟨I,hK⟩|⟨mb,D,I,ho,hm⟩;{subst I;have gW:∀n,(Instr.lookup 80 (.map aR) (.agg #[ai x.nm,iI x.ar,iI x.a0,iI x.a1,iI x.a2,iI x.v]) true).run prog ((w.alloc (aG #[ai x.nm,iI x.ar,iI x.a0,iI x.a1,iI x.a2,iI x.v] 145)).drewN n)=.ok (.tuple #[iI 0,af]) ((w.alloc (aG #[ai x.nm,iI x.ar,iI x.a0,iI x.a1,iI x.a2,iI x.v] 145)).drewN n):=by{intro n;have e:=Maps.look_nil (w:=(w.alloc (aG #[ai x.nm,iI x.ar,iI x.a0,iI x.a1,iI x.a2,iI x.v] 145)).drewN n) true se CI (yw _) E;exact mK};obtain⟨c1,c2,f2⟩:=xQ kb 1 2 2;have vW:=gW 0;have yy:¬sb=w.heap.size:=bH;have YF:=@run_makeMap prog;have Eb:=qD1;obtain⟨HK,H,KB⟩:=bV hK h kb;clear h kb hx P A hK;delta cP;go_in;go_wp2;go_quiet (fail);obtain⟨z,eC⟩:∃z,(w.alloc (aG #[ai x.nm,iI x.ar,iI x.a0,iI x.a1,iI x.a2,iI x.v] 145)).drewN nq=z:=⟨_,rfl⟩;have oe:Hid (eX w z):=T7;have O:=q8 ((oe.block sb dn id).z KB);have U:Hid (z.heap[w.heap.size]?=ad #[ai x.nm,iI x.ar,iI x.a0,iI x.a1,iI x.a2,iI x.v] 145):=Ve;have lC:=j9 O;have O2:=j9 U;rw[eC];clear eC gW vW c1 c2 f2;obtain⟨c1,c2,f2⟩:=xQ O 1 2 2;go_wp2;obtain⟨mb,Q⟩:∃mb,mb=z.heap.size:=⟨_,rfl⟩;obtain⟨D,hD⟩:∃D:DataW Unit,D=.map []:=⟨_,rfl⟩;obtain⟨V,eC⟩:∃V,(z.setCell (aD sb 2) (.map (aQ z.heap.size))).alloc (.map #[] 0)=V:=⟨_,rfl⟩;have T:(z.setCell (aD sb 2) (.map (aQ z.heap.size))).heap.size=z.heap.size:=bK;have Ec:Hid (q9 (λk=>k=sb) z V):=by{rw[<-eC];exact((q9.refl (λk=>k=sb) _).sc sb 2 _).alloc _};have HV:Hid (q9 (λk=>k=sb) w V):=(oe.M).z Ec;have KV:Hid (V.heap[sb]?=ad #[nv,.slice u (aA K) s,.map (aQ mb),at_,J,N,ks,vd,L] 98):=by{rw[<-eC,Q];exact(iO _ _ sb (by rw[T];exact lC)).z (X6 O 2 _)};have S:Hid (V.heap[w.heap.size]?=ad #[ai x.nm,iI x.ar,iI x.a0,iI x.a1,iI x.a2,iI x.v] 145):=(Ec.block _ O2 Gy).z U;have F:Hid (¬mb=sb):=by{show ¬_;omega};have vX:Hid (V.ownsMap prog 145 (plainElem prog 3) mb (aA K) D):=by{have e:=World.ownsMap_made (H:=Unit) (z.setCell (aD sb 2) (.map (aQ z.heap.size))) prog 145 (plainElem prog 3);rw[T,eC]at e;rw[Q,hD,HK.o];exact e};have sh:Hid (iJ mY Z7.Ok (λ_=>True) K D (aA K)):=by{rw[hD,HK.o];exact Yo};have Y:Hid (Maps.Tidy D):=by{rw[hD];exact tidy_empty};have R:Hid (dA (.map aR)=aQ mb\/w.heap.size<=mb):=.inr Zdi;have vY:Hid (∀g,aB (Value.slice u (aA K) s)=aQ g->¬g=mb):=λg hg e=>Zms;rw[eC,<-Q];clear eC Q hD c1 c2 f2 O U Eb T;have O':=j9 KV;have B:=j9 S;obtain⟨c1,c2⟩:=db KV 1 2;obtain⟨x0,x1,x2,x3,x4,x5⟩:=qN S 0 1 2 3 4 5;obtain⟨i0,hi,X,cz,cE⟩:=cR IE;have Pa:=YC mb;have W:=q8 (j8 H.own HV (λk hk e=>fK k hk e));go_wp2;go_region_law ((refine step_append_lies _ (by rfl) _ _ _ (by rfl) 0 145 i0 _ 6 56 zI hi X cz cE rfl bH (.slice u (aA K) s) (aA K) (K.flatMap Z7.cells) (by rfl) ((W.alloc _).drew) (aD V.heap.size 0) 1 1 x.cells (by rfl) (by rfl) (World.news_of_block (cs:=#[ai x.nm,iI x.ar,iI x.a0,iI x.a1,iI x.a2,iI x.v]) (t:=145) (fr:=(0,0)) (bR V _)) ZkC bH cN bH (cf _) (V.heap.size+1) bK ?_;intro g r w2 c b cu tR;have l:w2.heap[sb]?=ad #[nv,.slice u (aA K) s,.map (aQ mb),at_,J,N,ks,vd,L] 98:=(b.block sb bQ (λe=>fK sb e.symm rfl)).z ((iO V _ sb O').z KV);have d1:=z7 l 1;have Z:=Q9 l 1));all_goals obtain⟨p,fW⟩:∃p,w2.setCell (aD sb 1) (az g (aA K+1) r)=p:=⟨_,rfl⟩;have m:q9 (λk=>aB (Value.slice u (aA K) s)=aQ k) V w2:=((((eR V).alloc _).drew).M).grown b (λk hk _=>hk);have j:q9 (λk=>k=sb) w2 p:=ZiL;have y:p.heap[sb]?=ad #[nv,(az g (aA K+1) r),.map (aQ mb),at_,J,N,ks,vd,L] 98:=by{rw[<-fW];exact X6 l 1 _};have C:p.heap[w.heap.size]?=ad #[ai x.nm,iI x.ar,iI x.a0,iI x.a1,iI x.a2,iI x.v] 145:=(j.block _ (cC B m.size) Gy).z ((m.block _ B (λe=>Ue)).z S);have G:p.drew.ownsMap prog 145 (plainElem prog 3) mb (aA K) D:=J8 (J8 (J8 vX m (λe=>vY mb e rfl)) j F) ((eR p).drew) id;obtain⟨W4,iT,q,d⟩:=G.store se CI cN E (s' qJ (AD (n:=(aA K:Int)) ⟨bH,bH⟩));obtain⟨e1,e2⟩:=db y 1 2;obtain⟨y0,y1,y2,y3,y4,y5⟩:=qN C 0 1 2 3 4 5;have HN:Hid (D8 w sb nv ⟨.slice u (aA K) s,.map aR,at_,J,N,ks,vd,L⟩ K x (aH (iI (aA K))) W4):=YD (xs:=⟨.slice u (aA K) s,.map aR,at_,J,N,ks,vd,L⟩) H HX mi ((HV.alloc _).drew) b c (cu.imp id (λe=>Uq)) TE TZ F R j sh Y q ((((eR p).drew).M).z (yv d)) y;rw[fW];clear fW m j y C G q d l c b cu c1 c2 d1 Z;go_wp2;go_region;all_goals go_wp2;go_ret;exact HN};subst I;have gW:∀n,(Instr.lookup 80 (.map (aQ mb)) (.agg #[ai x.nm,iI x.ar,iI x.a0,iI x.a1,iI x.a2,iI x.v]) true).run prog ((w.alloc (aG #[ai x.nm,iI x.ar,iI x.a0,iI x.a1,iI x.a2,iI x.v] 145)).drewN n)=.ok (.tuple #[iI 0,af]) ((w.alloc (aG #[ai x.nm,iI x.ar,iI x.a0,iI x.a1,iI x.a2,iI x.v] 145)).drewN n):=by intro n;have q':=J8 ho (((eR w).alloc (aG #[ai x.nm,iI x.ar,iI x.a0,iI x.a1,iI x.a2,iI x.v] 145)).drewN n) id;obtain⟨v,ps,Ea,hv⟩:=q'.look_ok se CI (yw _) (s' qJ bJ) E;exact ZgT
 obtain⟨c1,c2⟩:=db kb 1 2;have vW:=gW 0;have yy:¬sb=w.heap.size:=bH;obtain⟨Y,sh,HO,H,KB⟩:=eS (ho.tidy se) hm ho h kb;have vY:Hid (∀g,aB (Value.slice u (aA K) s)=aQ g->¬g=mb):=λg hg e=>h.sep g hg uL;have F:Hid (¬mb=sb):=A mb rfl;have R:Hid (dA (.map (aQ mb))=aQ mb\/w.heap.size<=mb):=.inl rfl;clear h kb ho hm hx P A;delta cP;go_in;go_wp2;go_quiet (fail);obtain⟨V,eC⟩:∃V,(w.alloc (aG #[ai x.nm,iI x.ar,iI x.a0,iI x.a1,iI x.a2,iI x.v] 145)).drewN nq=V:=⟨_,rfl⟩;have oe:Hid (eX w V):=T7;have HV:Hid (q9 (λk=>k=sb) w V):=oe.M;have KV:=q8 ((oe.block sb dn id).z KB);have S:Hid (V.heap[w.heap.size]?=ad #[ai x.nm,iI x.ar,iI x.a0,iI x.a1,iI x.a2,iI x.v] 145):=Ve;have vX:=q8 (J8 HO oe id);rw[eC];clear eC gW vW c1 c2;have O':=j9 KV;have B:=j9 S;obtain⟨c1,c2⟩:=db KV 1 2;obtain⟨x0,x1,x2,x3,x4,x5⟩:=qN S 0 1 2 3 4 5;obtain⟨i0,hi,X,cz,cE⟩:=cR IE;have Pa:=YC mb;have W:=q8 (j8 H.own HV (λk hk e=>fK k hk e));go_wp2;go_region_law ((refine step_append_lies _ (by rfl) _ _ _ (by rfl) 0 145 i0 _ 6 56 zI hi X cz cE rfl bH (.slice u (aA K) s) (aA K) (K.flatMap Z7.cells) (by rfl) ((W.alloc _).drew) (aD V.heap.size 0) 1 1 x.cells (by rfl) (by rfl) (World.news_of_block (cs:=#[ai x.nm,iI x.ar,iI x.a0,iI x.a1,iI x.a2,iI x.v]) (t:=145) (fr:=(0,0)) (bR V _)) ZkC bH cN bH (cf _) (V.heap.size+1) bK ?_;intro g r w2 c b cu tR;have l:w2.heap[sb]?=ad #[nv,.slice u (aA K) s,.map (aQ mb),at_,J,N,ks,vd,L] 98:=(b.block sb bQ (λe=>fK sb e.symm rfl)).z ((iO V _ sb O').z KV);have d1:=z7 l 1;have Z:=Q9 l 1));all_goals obtain⟨p,fW⟩:∃p,w2.setCell (aD sb 1) (az g (aA K+1) r)=p:=⟨_,rfl⟩;have m:q9 (λk=>aB (Value.slice u (aA K) s)=aQ k) V w2:=((((eR V).alloc _).drew).M).grown b (λk hk _=>hk);have j:q9 (λk=>k=sb) w2 p:=ZiL;have y:p.heap[sb]?=ad #[nv,(az g (aA K+1) r),.map (aQ mb),at_,J,N,ks,vd,L] 98:=by{rw[<-fW];exact X6 l 1 _};have C:p.heap[w.heap.size]?=ad #[ai x.nm,iI x.ar,iI x.a0,iI x.a1,iI x.a2,iI x.v] 145:=(j.block _ (cC B m.size) Gy).z ((m.block _ B (λe=>Ue)).z S);have G:p.drew.ownsMap prog 145 (plainElem prog 3) mb (aA K) D:=J8 (J8 (J8 vX m (λe=>vY mb e rfl)) j F) ((eR p).drew) id;obtain⟨W4,iT,q,d⟩:=G.store se CI cN E (s' qJ (AD (n:=(aA K:Int)) ⟨bH,bH⟩));obtain⟨e1,e2⟩:=db y 1 2;obtain⟨y0,y1,y2,y3,y4,y5⟩:=qN C 0 1 2 3 4 5;have HN:Hid (D8 w sb nv ⟨.slice u (aA K) s,.map (aQ mb),at_,J,N,ks,vd,L⟩ K x (aH (iI (aA K))) W4):=YD (xs:=⟨.slice u (aA K) s,.map (aQ mb),at_,J,N,ks,vd,L⟩) H HX mi ((HV.alloc _).drew) b c (cu.imp id (λe=>Uq)) TE TZ F R j sh Y q ((((eR p).drew).M).z (yv d)) y;rw[fW];clear fW m j y C G q d l c b cu c1 c2 d1 Z;go_wp2;go_region;all_goals go_wp2;go_ret;exact HN
structure CK where
 nm:ByteArray
 ar:Int
 a0:Int
 a1:Int
 a2:Int
def CK.cells(k:CK):ak:=[.string k.nm,iI k.ar,iI k.a0,iI k.a1,iI k.a2]
def CK.val(k:CK):au:=.agg #[.string k.nm,iI k.ar,iI k.a0,iI k.a1,iI k.a2]
structure CK.Ok(k:CK):Prop where
 nm:k.nm.size<=1000
 ar:Sm k.ar
 a0:Sm k.a0
 a1:Sm k.a1
 a2:Sm k.a2
theorem YG:prog.cellsOf 147=5:=bS
theorem jR7(d:Nat){k:CK}(h:k.Ok):∃ls,prog.keyLits (d+3) 147 k.cells=aQ ls:=by unfold Program.keyLits;simp[CK.cells,underlying147,YG,OW,OX,Yx d h.nm h.ar,Yy d h.a0 h.a1 h.a2]
theorem Za0{k:CK}(h:k.Ok):∃l,keyOf prog 147 k.val=aQ l:=by
 obtain⟨d,hd⟩:=OY;obtain⟨ls,hl⟩:=jR7 d h;refine⟨.string (keyBytes ls),?_⟩;have hc:k.val.cells.toList=k.cells:=rfl;have OZ:prog.keyType 147=true:=bS;have hf:k.val.formed prog 147=true:=by simp[CK.val,Value.formed,underlying147,YG]
 unfold keyOf;rw[underlying147];exact Zct
theorem IN:Keyed prog 147:=Keyed.of_law (deep_law_laid bS (m:=4) bH (pN bS) bS bS)
noncomputable def jv(k:CK):Lit:=(keyOf prog 147 k.val).getD (.bool false)
theorem IS{k:CK}(h:k.Ok):keyOf prog 147 k.val=aQ (jv k):=by obtain⟨_,a⟩:=Za0 h;rw[jv,a];rfl
theorem YH{x y:CK}(c:x.Ok)(b:y.Ok)(h:jv x=jv y):x=y:=by have a:=IS b;rw[<-h]at a;have e:=IN.inj (IS c) a;cases x;cases y;simp[CK.val]at e;simp[e]
def tS(x:Z7)(u:Nat->Int)(j:Nat):CK:=⟨x.nm,x.ar,if 0<j then u x.a0.toNat else 0,if 1<j then u x.a1.toNat else 0,if 2<j then u x.a2.toNat else 0⟩
def gK(x:Z7)(u:Nat->Int):CK:=tS x u x.ar.toNat
structure tT(TK:bg)(u:Nat->Int)(j:Nat)(D:DataW Unit):Prop where
 yes:∀ (i:Nat) (x:Z7),i<j->TK[i]?=aQ x->¬x.nm=⟨#[]⟩->(∀ z,D.atKey (jv (gK x u)) z=.lit (.int .i64 (u i)))/\Maps.has D (jv (gK x u))=true
 no:∀ k:CK,k.Ok->(∀ (i:Nat) (x:Z7),i<j->TK[i]?=aQ x->¬x.nm=⟨#[]⟩->¬gK x u=k)->Maps.has D (jv k)=false
structure Pb(TK:bg)(u:Nat->Int):Prop where
 ok:∀ x∈TK,(gK x u).Ok
 same:∀ (i j:Nat) (x y:Z7),TK[i]?=aQ x->TK[j]?=aQ y->¬x.nm=⟨#[]⟩->¬y.nm=⟨#[]⟩->gK x u=gK y u->u i=u j
 ar:∀ x∈TK,0<=x.ar/\x.ar<=3
 a0:∀ x∈TK,0<x.ar->0<=x.a0/\x.a0<aA TK
 a1:∀ x∈TK,1<x.ar->0<=x.a1/\x.a1<aA TK
 a2:∀ x∈TK,2<x.ar->0<=x.a2/\x.a2<aA TK
 sm:∀ i,i<aA TK->Sm (u i)
section
variable{TK:bg}{u:Nat->Int}
theorem jR8:tT TK u 0 (.map []):=⟨λi _ h=>absurd h (Nat.not_lt_zero i),λ_ _ _=>rfl⟩
theorem tT.skip{x:Z7}(h:tT TK u j D)(g:TK[j]?=aQ x)(l:x.nm=⟨#[]⟩):tT TK u (j+1) D:=by
 refine⟨λi y f c a=>?_,λk d b=>h.no k d (λi y f=>b i y bH)⟩;by_cases e:i=j;subst e;rw[g]at c;obtain rfl:x=y:=by simpa using c
 exact absurd l a;exact h.yes i y bH c a
theorem tT.put{x:Z7}(h:tT TK u j D)(hD:Maps.Tidy D)(n:Pb TK u)(m:TK[j]?=aQ x)(t:¬x.nm=⟨#[]⟩)(hk:WideAt.IsKeyLit (jv (gK x u))):tT TK u (j+1) (D.put (jv (gK x u)) (.lit (.int .i64 (u j)))):=by
 have l:=n.ok x (cm m);refine⟨λi y A g f=>?_,λk c b=>?_⟩;by_cases e:gK y u=gK x u;have w:=n.same i j y x g m f t e;rw[e,w];generalize jv (gK x u)=q at hk⊢;exact Ziw;have v:¬i=j:=by intro d;subst d;rw[m]at g;obtain rfl:x=y:=by{simpa using g};exact e rfl
 have a:jv (gK y u)≠jv (gK x u):=λd=>e (YH (n.ok y (cm g)) l d);obtain⟨r,o⟩:=h.yes i y bH g f;generalize jv (gK y u)=p at r o a⊢;generalize jv (gK x u)=q at a⊢;exact⟨λz=>by rw[atKey_put_other a];exact r z,by rw[has_put_other a];exact o⟩;have a:jv k≠jv (gK x u):=λd=>b j x bH m t (YH c l d).symm;have s:=h.no k c (λi y A=>b i y bH);generalize jv k=p at a s⊢;generalize jv (gK x u)=q at a⊢;rw[has_put_other a];exact s
end
def YI(w:ao)(sb:Nat)(nv:au)(xs:PX)(K:bg)(n:Nat)(w':ao):Prop :=
 ∃ a,w'.heap[sb]?=aQ (aG #[nv,a,xs.tm,xs.at_,xs.am,xs.fs,xs.ks,xs.vd,xs.ml] 98)/\qZ w' a xs.tm (K.take n)/\q9 (fun k=>k=sb\/aB xs.ts=aQ k\/dA xs.tm=aQ k) w w'/\aB a=aB xs.ts
theorem qt2{K:bg}(b:n<=aA K):(K.flatMap Z7.cells).take (n*6)=(K.take n).flatMap Z7.cells:=by have hl:∀l:bg,aA (l.flatMap Z7.cells)=aA l*6:=ZgV;have e:K.flatMap Z7.cells=(K.take n).flatMap Z7.cells++(K.drop n).flatMap Z7.cells:=T5;exact Zhj
theorem qN9{K:bg}{x:Z7}(h:K[i]?=aQ x)(q:Nat)(d:q<6):(K.flatMap Z7.cells)[i*6+q]?=x.cells[q]?:=by obtain⟨_,hx⟩:=ck.1 h;have hl:∀l:bg,aA (l.flatMap Z7.cells)=aA l*6:=ZgV;have e:K.take i++x::K.drop (i+1)=K:=Cf;have c:(K.take i++x::K.drop (i+1)).flatMap Z7.cells=(K.take i).flatMap Z7.cells++(x.cells++(K.drop (i+1)).flatMap Z7.cells):=bK;rw[e]at c;have b:aA ((K.take i).flatMap Z7.cells)=i*6:=UX;have f:aA x.cells=6:=rfl;rw[c,du (by rw[b];omega),b,show i*6+q-i*6=q by omega,ei bH]
theorem Pc{wr:ao}{a:au}{K:bg}(h:qZ w xs.ts xs.tm K)(hn:n<=aA K)(fu:∀k,aB xs.ts=aQ k->¬k=sb)(gH:∀k,dA xs.tm=aQ k->¬k=sb)(hE:q9 (λk=>dA xs.tm=aQ k) w wr)(hm:(xs.tm=.map aR/\K=[])\/∃mb D,xs.tm=.map (aQ mb)/\wr.ownsMap prog 145 (plainElem prog 3) mb (n+(aA K-aA K)) D/\iJ mY Z7.Ok (o5 K n (aA K)) K D (n+(aA K-aA K)))(c9:aC w2 0 145 6 a n ((K.flatMap Z7.cells).take (n*6)))(hx:q9 (λk=>aB xs.ts=aQ k) wr w2)(km:aB a=aB xs.ts)(hW:q9 (λk=>k=sb) w2 W)(b:W.heap[sb]?=ad #[nv,a,xs.tm,xs.at_,xs.am,xs.fs,xs.ks,xs.vd,xs.ml] 98):YI w sb nv xs K n W:=by refine⟨a,b,⟨?_,h.nd.sublist (GX n K),λk hk=>h.ok k (gR hk),?_,λk hk=>ZkD⟩,?_,km⟩;rw[qt2 hn]at c9;have hl:aA (K.take n)=n:=lM;exact Zjd;exact Zlf;exact Zhx
theorem qO0{K:bg}(n:Nat)(v:w.heap[sb]?=ad #[nv,xs.ts,xs.tm,xs.at_,xs.am,xs.fs,xs.ks,xs.vd,xs.ml] 98)(h:qZ w xs.ts xs.tm K)(r:∀k,aB xs.ts=aQ k->¬k=sb)(m:∀k,dA xs.tm=aQ k->¬k=sb)(C:aA K<=10000000)(hn:n<=aA K):cP 65 #[.pointer (aQ (aD sb 1)),iI n] w λe w'=>e=aH (.tuple #[])/\YI w sb nv xs K n w':=by
 obtain⟨ts,tm,at_,J,M,ks,vd,L⟩:=xs;simp only at v h r m;have F:=j9 v;have ye:(ts=ae/\aA K=0)\/∃g tc,ts=az g (aA K) tc/\aA K<=tc/\tc<=9223372036854775807/\g<w.heap.size/\∀q,q<aA K*6->aE w (aD g q)=(K.flatMap Z7.cells)[q]?:=Zgz;rcases ye with⟨u,mj⟩|⟨g,tc,u,_,T,Z,c⟩;{clear C;have Y:K=[]:=zK.1 mj;have E:n=0:=bH;subst E u;have G:Hid ((tm=.map aR/\K=[])\/∃mb D,tm=.map (aQ mb)/\w.ownsMap prog 145 (plainElem prog 3) mb (0+(aA K-aA K)) D/\iJ mY Z7.Ok (o5 K 0 (aA K)) K D (0+(aA K-aA K))):=Ty;have c1:=z7 v 1;have y:=F;obtain⟨H,U,l,s,o⟩:=eS h v r m (j8 h.own ((eR w).drew) (λ_ _ f=>f));rw[mj]at o;clear h v r m;delta cP;go_in;go_wp2;go_loopw [13](λi wr=>i=iI 0/\wr=w)(λ_ _=>0);(case atStart=>exact lN);case round=>obtain⟨rfl,rfl⟩:=hrel;go_wp2;go_region_law (go_simp;go_wp2_with(go_at_call 100;refine(OT o (cj 0) bH).I ?_;rintro e w2 ⟨v',rfl,a,d,t⟩;obtain⟨va,vc,rfl⟩:=Z3 a;have b:w2.heap[sb]?=ad #[nv,ae,tm,at_,J,M,ks,vd,L] 98:=(d.block sb y (λe=>l sb e rfl)).z U;have d1:=z7 b 1;have P:=Q9 b 1));all_goals go_wp2;go_end0;refine⟨rfl,?_⟩;exact Pc (xs:=⟨ae,tm,at_,J,M,ks,vd,L⟩) H (cf _) l s (rr _) G a (((rr _).drew).z d) t ((q9.refl (λk=>k=sb) w2).sc sb 1 _) (X6 b 1 _)};by_cases mj:aA K=0;{clear C c T;rw[mj]at u;have Y:K=[]:=zK.1 mj;have E:n=0:=bH;subst E u;have G:Hid ((tm=.map aR/\K=[])\/∃mb D,tm=.map (aQ mb)/\w.ownsMap prog 145 (plainElem prog 3) mb (0+(aA K-aA K)) D/\iJ mY Z7.Ok (o5 K 0 (aA K)) K D (0+(aA K-aA K))):=Ty;have c1:=z7 v 1;have y:=F;obtain⟨H,U,l,s,o⟩:=eS h v r m (j8 h.own ((eR w).drew) (λ_ _ f=>f));rw[mj]at o;clear h v r m;delta cP;go_in;go_wp2;go_loopw [13](λi wr=>i=iI 0/\wr=w)(λ_ _=>0);(case atStart=>exact lN);case round=>obtain⟨rfl,rfl⟩:=hrel;go_wp2;go_region_law (go_simp;go_wp2_with(go_at_call 100;refine(OT o (cj 0) bH).I ?_;rintro e w2 ⟨v',rfl,a,d,t⟩;obtain⟨va,vc,rfl⟩:=Z3 a;have b:w2.heap[sb]?=ad #[nv,az g 0 tc,tm,at_,J,M,ks,vd,L] 98:=(d.block sb y (λe=>l sb e rfl)).z U;have d1:=z7 b 1;have P:=Q9 b 1));all_goals go_wp2;go_end0;refine⟨rfl,?_⟩;exact Pc (xs:=⟨az g 0 tc,tm,at_,J,M,ks,vd,L⟩) H (cf _) l s (rr _) G a (((rr _).drew).z d) t ((q9.refl (λk=>k=sb) w2).sc sb 1 _) (X6 b 1 _)};subst u;rcases h.map with⟨S,hK⟩|⟨mb,D,S,ho,hm⟩;exact absurd (by rw[hK];rfl) mj;subst S;obtain⟨A,_,hA2⟩:∃A,(if tc=n then aQ ((aD g 0):Addr)else aQ ⟨g,n*6,aR⟩)=aQ A/\(n<tc->A=⟨g,n*6,aR⟩):=ZlM;have hnc:n<=tc:=bH;have c1:=z7 v 1;obtain⟨sh,HO,H,U,z,ra,l,s⟩:=ej (OV hm hn) ho h v c hA2 r m;have vZ:Hid (¬mb=sb):=m mb rfl;have IT:=ho.lt;clear h v ho hm c hA2 r m;delta cP;go_in;go_wp2;go_loopw [13](λi wr=>∃(j:Nat)(D:DataW Unit),n<=j/\j<=aA K/\i=iI ((j-n:Nat):Int)/\q9 (λk=>k=mb) w wr/\wr.ownsMap prog 145 (plainElem prog 3) mb (n+(aA K-j)) D/\iJ mY Z7.Ok (o5 K n j) K D (n+(aA K-j)))(λi _=>aA K-n-(intOf i).toNat);case atStart=>exact Zmo
 case round=>clear c1;obtain⟨j,Dj,IU,_,rfl,hE,O,N⟩:=hrel;have B:=(hE.block sb F (λe=>vZ e.symm)).z U;obtain⟨c1,_⟩:=db B 1 2;have y:=j9 B;obtain⟨V,I,R,Ee⟩:=cK hE O N B;clear hE O N B;by_cases ct:j<aA K;obtain⟨x,hx⟩:∃x,K[j]?=aQ x:=⟨_,bZ ct⟩;have W:=ra bH;subst W;have Q:=H.ok x (cm hx);have lB:keyOf prog 145 (.agg #[ai x.nm,iI x.ar,iI x.a0,iI x.a1,iI x.a2,iI x.v])=aQ (mY x):=D6 Q;have Ef:¬g=mb:=λe=>H.sep g rfl uL;have hc:∀q,q<6->aE wr ⟨g,j*6+q,aR⟩=x.cells[q]?:=by{intro q hq;rw[V.o.cell (p:=⟨g,j*6+q,aR⟩) Z Ef,z.o _ bH];exact qN9 hx q hq};have z0:aE wr ⟨g,j*6,aR⟩=aQ (ai x.nm):=hc 0 bJ;have z1:aE wr ⟨g,j*6+1,aR⟩=aQ (iI x.ar):=hc 1 bJ;have z2:aE wr ⟨g,j*6+2,aR⟩=aQ (iI x.a0):=hc 2 bJ;have z3:aE wr ⟨g,j*6+3,aR⟩=aQ (iI x.a1):=hc 3 bJ;have z4:aE wr ⟨g,j*6+4,aR⟩=aQ (iI x.a2):=hc 4 bJ;have z5:aE wr ⟨g,j*6+5,aR⟩=aQ (iI x.v):=hc 5 bJ;have o7:(wr.alloc (aG #[ai x.nm,iI x.ar,iI x.a0,iI x.a1,iI x.a2,iI x.v] 145)).drew.ownsMap prog 145 (plainElem prog 3) mb (n+(aA K-j)) Dj:=(I.alloc _).drew;obtain⟨W1,_,fU,yz⟩:=o7.drop se CI lB 0;have IV:=q8 (Yq R (I.tidy se) H.nd H.ok (λ_ hy e=>Yz hy Q e) IU hx);have tU:q9 (λk=>k=mb) w W1:=(((V.alloc _).drew).z (yv yz));obtain⟨iH,DR⟩:=bM tU (YB fU IV.size);have e4:n*6+(j-n)*6=j*6:=bH;exact Zlo;have X:j=aA K:=bH;subst X;have o:=q8 (j8 H.own V.drew (λk hk e=>H.sep k hk uL));go_wp2;go_region_law (go_simp;go_wp2_with(go_at_call 100;refine(OT o hn bH).I ?_;rintro e w2 ⟨v',rfl,a,d,t⟩;obtain⟨va,vc,rfl⟩:=Z3 a;have b:w2.heap[sb]?=ad #[nv,az g (aA K) tc,.map (aQ mb),at_,J,M,ks,vd,L] 98:=(d.block sb y (λe=>l sb e rfl)).z Ee;have d1:=z7 b 1;have P:=Q9 b 1));all_goals go_wp2;go_end0;refine⟨rfl,?_⟩;exact Pc (xs:=⟨az g (aA K) tc,.map (aQ mb),at_,J,M,ks,vd,L⟩) H hn l s (V.I (λ_ _ e=>uL)) (.inr ⟨mb,Dj,rfl,I,R⟩) a (((rr wr).drew).z d) t ((q9.refl (λk=>k=sb) w2).sc sb 1 _) (X6 b 1 _)
noncomputable def ix(T ps:aY)(q:Nat):Int:=match ps[q]? with
 | some p=>(idx T p:Int)
 | none=>0
noncomputable def dO(T:aY):Nd->Z7
 | .mk k w v ps=>if k=4 then⟨ByteArray.empty,0,0,0,0,v⟩ else⟨w,(aA ps),ix T ps 0,ix T ps 1,ix T ps 2,0⟩
theorem YJ(h:T<+:T')(a:∀p∈ps,p∈T)(q:Nat):ix T' ps q=ix T ps q:=by unfold ix;split;rename_i p b;rw[Iq h (a p (cm b))];rfl
theorem Pd(h:T<+:T')(b:∀p∈J6 x,p∈T):dO T' x=dO T x:=by cases x with|mk k w v ps=>have a:∀p∈ps,p∈T:=b;simp only[dO,YJ h a]
theorem tV(h:x∈T):idx T x<aA T:=(ck.1 (k8 h)).1
theorem AE:Sm 0:=⟨bJ,bJ⟩
theorem Eg(a:∀p∈ps,p∈T)(c:aA T<=10000000)(q:Nat):Sm (ix T ps q):=by unfold ix;split;rename_i p b;have:=tV (a p (cm b));exact rL;exact⟨bJ,bJ⟩
theorem YK{w:ax}(h:X7 w.toList=true):w.size<=8:=by simp only[X7,jk,Cy]at h;rw[<-Z6];exact h.2.2
theorem YL(g:Y2 x)(c:∀p∈J6 x,p∈T)(b:aA T<=10000000):(dO T x).Ok:=by cases g with|num j i=>(rw[dO,bO rfl];refine⟨?_,AE,AE,AE,AE,?_⟩;{show ByteArray.empty.size<=1000;decide};exact⟨MB,MB⟩)| @app w ps d f e=>rw[dO,bL bJ];have a:∀p∈ps,p∈T:=c;have h:=YK d;exact⟨MB,⟨MB,MB⟩,Eg a b 0,Eg a b 1,Eg a b 2,AE⟩
theorem Pe{qs:aY}(c:∀p∈ps,p∈T)(d:∀p∈qs,p∈T)(e:aA ps=aA qs)(h:ix T ps i=ix T qs i):ps[i]?=qs[i]?:=by unfold ix at h;cases a:ps[i]? with|none=>(have:qs[i]?=aR:=by{rw[List.getElem?_eq_none_iff]at a⊢;omega};rw[this])|some p=>have f:=(ck.1 a).1;have b:qs[i]?=aQ qs[i]:=bZ bH;rw[a,b]at h;simp only at h;have:=Ap (c p (cm a)) (d _ (cm b)) bH;rw[b,this]
theorem ju8{y:Nd}(t:Y2 x)(j:Y2 y)(e:∀p∈J6 x,p∈T)(f:∀p∈J6 y,p∈T)(h:dO T x=dO T y):x=y:=by cases t with|num z v=>(cases j with|num r m=>(rw[dO,bO rfl,dO,bO rfl]at h;simp at h;rw[h])| @app w ps d o g=>rw[dO,bO rfl,dO,bL bJ]at h;simp only[Z7.mk.injEq]at h;rw[<-h.1,tz]at d;exact absurd d bJ)| @app w ps d o g=>cases j with|num r m=>(rw[dO,bL bJ,dO,bO rfl]at h;simp only[Z7.mk.injEq]at h;rw[h.1,tz]at d;exact absurd d bJ)| @app w' qs k q s=>rw[dO,bL bJ,dO,bL bJ]at h;simp only[Z7.mk.injEq]at h;obtain⟨rfl,_,l,u,n,_⟩:=h;have c:aA ps=aA qs:=bH;have a:∀p∈ps,p∈T:=e;have b:∀p∈qs,p∈T:=f;have:ps=qs:=by{apply zH;intro i;match i with|0=>{exact Pe a b c l}|1=>{exact Pe a b c u}|2=>{exact Pe a b c n}|i+3=>exact Zmu};rw[this]
noncomputable def keys(T:aY):bg:=T.map (dO T)
theorem H7(T:aY):aA (keys T)=aA T:=by simp[keys]
theorem YM(h:T<+:T')(b:Cl T):T.map (dO T')=keys T:=by unfold keys;apply GY;intro _ c;exact Pd h (λ_ a=>b.part c a)
theorem YN(g:Cl T)(n:Y2 x)(h:∀p∈J6 x,p∈T):keys (eA T x)=qh (keys T) (dO T x):=by
 by_cases a:x∈T;rw[vO a,IJ (show dO T x∈keys T from dP.2 ⟨x,a,rfl⟩)];have c:¬dO T x∈keys T:=by intro j;obtain⟨y,f,e⟩:=dP.1 j;obtain⟨i,m⟩:=GV.1 f;have:=ju8 (g i y m).1 n (λp d=>g.part f d) h e;exact a (this▸f)
 rw[vP a,vV c];have b:T<+:T++[x]:=List.prefix_append _ _;have l:=YM b g;have k:=Pd b h;show List.map _ _=_;rw[nK,l,List.map_cons,List.map_nil,k]
theorem jg1(b:Cl T)(n:Nat):keys (T.take n)=(keys T).take n:=by have a:=YM (List.take_prefix n T) (b.take n);unfold keys at*;rw[<-xI,a]
theorem jg2(f:Cl T)(g:Y2 x)(c:∀p∈J6 x,p∈T)(b:(keys (eA T x)).Nodup)(h:(qh (keys T) (dO T x))[i]?=aQ (dO T x)):i=idx (eA T x) x:=by
 rw[<-YN f g c]at h;have d:x∈eA T x:=tK.2 (.inr rfl);have e:(keys (eA T x))[idx (eA T x) x]?=aQ (dO T x):=by unfold keys;rw[dN,k8 d];simp only[GZ,xF];exact Pd Ip c
 obtain⟨hi,e1⟩:=ck.1 h;obtain⟨hj,e2⟩:=ck.1 e;have IW:=CA.1 b;rcases GW i (idx (eA T x) x)with ct|a|yA;exact ZcJ;exact a;exact ZcK
structure TS(w:World)(sb:Nat)(nv:Value)(xs:PX)(T:aY):Prop where
 bP:w.heap[sb]?=aQ (aG #[nv,xs.ts,xs.tm,xs.at_,xs.am,xs.fs,xs.ks,xs.vd,xs.ml] 98)
 row:qZ w xs.ts xs.tm (keys T)
 cl:Cl T
 nd:T.Nodup
 s1:∀ k,aB xs.ts=aQ k->¬k=sb
 s2:∀ k,dA xs.tm=aQ k->¬k=sb
def TF(sb:Nat)(xs:PX)(k:Nat):Prop:=k=sb\/aB xs.ts=aQ k\/dA xs.tm=aQ k
theorem TS.ext(h:TS w sb nv xs T)(c:q9 S w w')(a:∀k,TF sb xs k->¬S k):TS w' sb nv xs T:=⟨(c.block sb (j9 h.bP) (a sb (.inl rfl))).z h.bP,h.row.ext c (λg b=>a g (.inr (.inl b))) (λg b=>a g (.inr (.inr b))),h.cl,h.nd,h.s1,h.s2⟩
theorem TS.lt(h:TS w sb nv xs T):∀k,TF sb xs k->k<w.heap.size:=by rintro k (rfl|e|e);exact j9 h.bP;exact(h.row.own.lt k e).2;rcases h.row.map with⟨e2,_⟩|⟨_,_,e2,a,_⟩;exact Uf;rw[e2]at e;simp[dA]at e;subst e;exact a.lt
def fJ(w:ao)(sb:Nat)(nv:au)(xs:PX)(T':aY)(i:Nat)(e:Ending)(w':ao):Prop :=
 e=aH (iI i)/\∃ cA i',TS w' sb nv { xs with ts:=cA,tm:=i' } T'/\q9 (TF sb xs) w w'/\(∀ k,TF sb { xs with ts:=cA,tm:=i' } k->TF sb xs k\/w.heap.size<=k)
theorem YO(h:TS w sb nv xs T)(c:Y2 x)(b:∀p∈J6 x,p∈T)(l:aA T<=10000000):cP 188 #[.pointer (aQ (aD sb 1)),(dO T x).val] w (fJ w sb nv xs (eA T x) (idx (eA T x) x)):=by refine(qN7 (dO T x) h.bP h.row (YL c b l) h.s1 h.s2 (by rw[H7];exact l)).I ?_;rintro e _ ⟨_,j,f,rfl,o,hb,i,n,h1,h2⟩;rw[<-YN h.cl c b]at i;have d:=jg2 h.cl c b i.nd o;subst d;have m:=j9 h.bP;refine⟨rfl,j,f,⟨hb,i,h.cl.put c b,Ao h.nd,λk g e=>?_,λk g e=>?_⟩,n,?_⟩;rcases h1 k g with a|a;exact h.s1 k a e;omega;rcases h2 k g with a|a;exact h.s2 k a e;omega;exact Zlv
theorem PN.within{D:aj}{cs:ak}{nd:Nd}(h:PN w D cs nd):PN w (λk=>D k/\k<w.heap.size) cs nd:=by induction h with|mk a c f e _ d=>exact PN.mk a c f (λg b=>⟨e g b,(a.lt g b).2⟩) d
theorem YP:∀{kids:List ak},(∀cs∈kids,aA cs=4)->∀{i:Nat}{cs:ak},kids[i]?=aQ cs->∀q,q<4->kids.flatten[i*4+q]?=cs[q]? |[],_,i,cs,h,_,_=>absurd h bK|k::ks,hl,0,cs,h,q,hq=>by{simp at h;subst h;have:=hl k bK;rw[List.flatten_cons,ei bH];exact mJ}|k::ks,hl,i+1,cs,h,q,hq=>by have a:=hl k bK;rw[List.flatten_cons,du bH,a,show(i+1)*4+q-4=i*4+q by omega];exact YP (λc b=>hl c (kJ _ b)) pJ q hq
theorem Eh{D:aj}{pv:au}{kids:List ak}(r:aC w 0 115 4 pv (aA ps) kids.flatten)(E:∀cs∈kids,aA cs=4)(J:aA kids=aA ps)(x:∀g,aB pv=aQ g->D g)(y:∀(i:Nat)(cs:ak)(p:Nd),kids[i]?=aQ cs->ps[i]?=aQ p->PN w D cs p):∃a cap,pv=aI a (aA ps) cap/\aA ps<=cap/\cap<=9223372036854775807/\∀i p,ps[i]?=aQ p->∃g k d h f o c,a=aQ (aD g 0)/\g<w.heap.size/\D g/\aE w ⟨g,i*4,aR⟩=aQ (iI k)/\aE w ⟨g,i*4+1,aR⟩=aQ (ai d)/\aE w ⟨g,i*4+2,aR⟩=aQ (iI h)/\aE w ⟨g,i*4+3,aR⟩=aQ (aI f o c)/\PN w D [iI k,ai d,iI h,aI f o c] p:=by rcases r.2 with⟨e,e0⟩|⟨g,cap,_,hv,_,F,B,h2,_⟩;refine⟨aR,0,zt,bH,bH,λi p hp=>?_⟩;exact ZkL;refine⟨aQ (aD g 0),cap,hv,B,ZdW,λi p hp=>?_⟩;have I:=(ck.1 hp).1;obtain⟨cs,t⟩:∃cs,kids[i]?=aQ cs:=⟨_,bZ bH⟩;have n:=y i cs p t hp;have l:=n;cases n with| @mk k h d m v s j G C H z=>obtain⟨f,c,rfl⟩:=Z3 j;have b:∀q,q<4->aE w ⟨g,i*4+q,aR⟩=[iI k,ai d,iI h,aI f (aA m) c][q]?:=by{intro q A;have u:=r;rw[hv]at u;rw[u.cellAt _ bH];exact YP E t q A};exact⟨g,k,d,h,f,(aA m),c,rfl,j9 F,x g GF,b 0 bJ,b 1 bJ,b 2 bJ,b 3 bJ,l⟩
noncomputable def sj(w:ByteArray)(T ps:aY)(j:Nat):Array Value:=#[.string w,iI (aA ps),iI (if 0<j then ix T ps 0 else 0),iI (if 1<j then ix T ps 1 else 0),iI (if 2<j then ix T ps 2 else 0),iI 0]
theorem jL6{w:ax}(a:j<3):(sj w T ps j).setIfInBounds (2+j) (iI (ix T ps j))=sj w T ps (j+1):=by match j,a with|0,_=>{rfl}|1,_=>{rfl}|2,_=>rfl
theorem ju9(w:ax)(T ps:aY):sj w T ps 0=#[ai w,iI (aA ps),iI 0,iI 0,iI 0,iI 0]:=rfl
theorem jv0{w:ax}:sj w T ps (aA ps)=#[ai w,iI (aA ps),iI (ix T ps 0),iI (ix T ps 1),iI (ix T ps 2),iI 0]:=by
 have h:∀q,(if q<aA ps then ix T ps q else 0)=ix T ps q:=by intro q;split;rfl;unfold ix;rw[jl bH]
 unfold sj;rw[h 0,h 1,h 2]
theorem jv1{w:ax}{q:Nat}(a:q<6):∃u,(sj w T ps j)[q]?=aQ u:=⟨_,CJ (by simpa[sj]using a)⟩
structure IX(w:World)(sb nb tb:Nat)(nv:Value)(xs:PX)(T:aY)(k v:Int)(word:ByteArray)(pv:Value)(ps:aY)(j:Nat)(wr:World):Prop where
 ext:q9 (TF sb xs) w wr
 qi:wr.heap[nb]?=aQ (aG #[iI k,.string word,iI v,pv] 115)
 yB:wr.heap[tb]?=aQ (aG (sj word (cV T ps) ps j) 145)
 ts:∃ cA i',TS wr sb nv { xs with ts:=cA,tm:=i' } (cV T (ps.take j))/\(∀ q,TF sb { xs with ts:=cA,tm:=i' } q->TF sb xs q\/w.heap.size+2<=q)
theorem jL7(T:aY)(v:Int):(dO T (.mk 4 ay v [])).val=.agg #[ag,iI 0,iI 0,iI 0,iI 0,iI v]:=by rw[dO,bO rfl];rfl
theorem jL8(T:aY)(w:ax)(v:Int)(ps:aY):(dO T (.mk 3 w v ps)).val=.agg #[ai w,iI (aA ps),iI (ix T ps 0),iI (ix T ps 1),iI (ix T ps 2),iI 0]:=by rw[dO,bL bJ];rfl
theorem fJ.ng{e:Ending}(c:eX w W)(h:fJ W sb nv xs T' i e w'):fJ w sb nv xs T' i e w':=by obtain⟨j,a,b,f,l,g⟩:=h;exact⟨j,a,b,f,(c.M).z l,λk d=>(g k d).imp id (λe=>dm c.size e)⟩
theorem jv2{v:Int}{wd:ax}{j:Option Addr}{g i:Nat}(h:TS w sb nv xs T)(l:-1000<=v)(k:v<=1000)(o:aA T<=10000000):cP 148 #[.pointer (aQ (aD sb 1)),.agg #[iI 4,ai wd,iI v,aI j g i]] w (fJ w sb nv xs (eY T (.mk 4 ay v [])) (idx (eY T (.mk 4 ay v [])) (.mk 4 ay v []))):=by have H:=q8 h;have m:=j9 h.bP;have a:Hid (eX w (w.alloc (aG #[iI 4,ai wd,iI v,aI j g i] 115)).drew):=((rr w).alloc _).drew;clear h;delta cP;go_in;go_wp2;have e:=YO (H.ext a (λ_ _ f=>f)) (.num l k) (λ_ c=>absurd c kH) o;rw[jL7]at e;have n:=q8 e;clear e;go_region_law (go_simp;go_wp2_with(go_at_call 188;refine n.I ?_;rintro _ _ c;have d:=c.ng a;obtain⟨rfl,b⟩:=d;have p:=q8 b;clear c b));all_goals go_wp2;go_ret;exact⟨rfl,p⟩
end Go.Proofs.YtegbdaffhpiacaaGreatDoor
