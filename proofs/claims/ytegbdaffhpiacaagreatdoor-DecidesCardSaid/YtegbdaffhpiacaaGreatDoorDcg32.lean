/- Part. -/
import Derived.Test.YtegbdaffhpiacaaGreatDoorDcg30
set_option maxRecDepth 100000
set_option maxHeartbeats 1000000
namespace Go.Proofs.YtegbdaffhpiacaaGreatDoor
open Go.Proofs.Tryz
open Go.RowKit Go.Maps Ar
variable{n b sb i j:Nat}{x:Nd}{y:Int}{S:aj}{w w' w2 W:ao}{R:au->Option (DataW Unit×List MemPlace)}{D:DataW Unit}{nv:au}{xs:PX}{T T' ps:List Nd}
def Sm(n:Int):Prop := -1000000000<=n/\n<=1000000000
structure Z7.Ok(k:Z7):Prop where
 nm:k.nm.size<=1000
 ar:Sm k.ar
 a0:Sm k.a0
 a1:Sm k.a1
 a2:Sm k.a2
 v:Sm k.v
structure U1.Ok(k:U1):Prop where
 wd:k.wd.size<=1000
 i:Sm k.i
 j:Sm k.j
 b:Sm k.b
theorem zM{n:Int}(h:Sm n):(Lit.int .i64 n).wf=true:=by obtain⟨_,_⟩:=h;simp[Lit.wf,IntKind.min,IntKind.max,IntKind.signed,IntKind.bits];omega
theorem Ny:prog.cellsOf 142=2:=aG
theorem CO:prog.cellsOf 3=1:=aG
theorem WE:prog.cellsOf 9=1:=aG
theorem Nz:prog.cellsOf 143=3:=aG
theorem WG:prog.cellsOf 151=2:=aG
theorem WH:prog.cellsOf 145=6:=aG
theorem WI:prog.cellsOf 153=4:=aG
theorem uU(d:Nat){n:Int}(h:Sm n):prog.keyLits (d+1) 3 [.int .i64 n]=some [.int .i64 n]:=by unfold Program.keyLits;simp[underlying3,zM h]
theorem WJ(d:Nat){s:ByteArray}(h:s.size<=1000):prog.keyLits (d+1) 9 [.string s]=some [.string s.data.toList]:=by unfold Program.keyLits;simp[underlying9];exact bS
theorem WK(d:Nat){s:ByteArray}{n:Int}(h:s.size<=1000)(hn:Sm n):prog.keyLits (d+2) 142 [.string s,.int .i64 n]=some [.string s.data.toList,.int .i64 n]:=by unfold Program.keyLits;simp[underlying142,Ny,CO,WE,uU d hn,WJ d h]
theorem WL(d:Nat){x z:Int}(b:Sm x)(a:Sm y)(c:Sm z):prog.keyLits (d+2) 143 [.int .i64 x,.int .i64 y,.int .i64 z]=some [.int .i64 x,.int .i64 y,.int .i64 z]:=by unfold Program.keyLits;simp[underlying143,Nz,CO,BL,uU d b,uU d a,uU d c]
theorem jL3(d:Nat){x:Int}(a:Sm x)(b:Sm y):prog.keyLits (d+2) 151 [.int .i64 x,.int .i64 y]=some [.int .i64 x,.int .i64 y]:=by unfold Program.keyLits;simp[underlying151,WG,CO,BL,uU d a,uU d b]
theorem jL4(d:Nat){k:Z7}(h:k.Ok):∃ls,prog.keyLits (d+3) 145 k.cells=some ls:=by unfold Program.keyLits;simp[Z7.cells,underlying145,WH,Ny,Nz,CO,WK d h.nm h.ar,WL d h.a0 h.a1 h.a2,uU (d+1) h.v]
theorem jL5(d:Nat){k:U1}(h:k.Ok):∃ls,prog.keyLits (d+3) 153 k.cells=some ls:=by unfold Program.keyLits;simp[U1.cells,underlying153,WI,WE,WG,CO,WJ (d+1) h.wd,jL3 d h.i h.j,uU (d+1) h.b]
theorem NA:∃d,prog.types.size+1=d+3:=⟨prog.types.size-2,by have:2<=prog.types.size:=qA aG;omega⟩
theorem jX3{k:Z7}(h:k.Ok):∃l,keyOf prog 145 k.val=some l:=by
 obtain⟨d,hd⟩:=NA;obtain⟨ls,hl⟩:=jL4 d h;refine⟨.string (keyBytes ls),?_⟩;have hc:k.val.cells.toList=k.cells:=rfl;have NB:prog.keyType 145=true:=aG;have hf:k.val.formed prog 145=true:=by simp[Z7.val,Value.formed,underlying145,WH]
 unfold keyOf;rw[underlying145];exact ZbH
theorem jX4{k:U1}(h:k.Ok):∃l,keyOf prog 153 k.val=some l:=by
 obtain⟨d,hd⟩:=NA;obtain⟨ls,hl⟩:=jL5 d h;refine⟨.string (keyBytes ls),?_⟩;have hc:k.val.cells.toList=k.cells:=rfl;have NB:prog.keyType 153=true:=aG;have hf:k.val.formed prog 153=true:=by simp[U1.val,Value.formed,underlying153,WI]
 unfold keyOf;rw[underlying153];exact ZbH
theorem q':Keyed prog 145:=Keyed.of_law (deep_law_laid aG (m:=4) aA (qA aG) aG aG)
theorem ra:Keyed prog 153:=Keyed.of_law (deep_law_laid aG (m:=4) aA (qA aG) aG aG)
noncomputable def lV(k:Z7):Lit:=(keyOf prog 145 k.val).getD (.bool false)
noncomputable def lW(k:U1):Lit:=(keyOf prog 153 k.val).getD (.bool false)
theorem CP{k:Z7}(h:k.Ok):keyOf prog 145 k.val=some (lV k):=by obtain⟨_,a⟩:=jX3 h;rw[lV,a];rfl
theorem CQ{k:U1}(h:k.Ok):keyOf prog 153 k.val=some (lW k):=by obtain⟨_,a⟩:=jX4 h;rw[lW,a];rfl
theorem WM{x y:Z7}(c:x.Ok)(b:y.Ok)(h:lV x=lV y):x=y:=by have a:=CP b;rw[<-h]at a;have e:=q'.inj (CP c) a;cases x;cases y;simp[Z7.val]at e;simp[e]
theorem WN{x y:U1}(c:x.Ok)(b:y.Ok)(h:lW x=lW y):x=y:=by have a:=CQ b;rw[<-h]at a;have e:=ra.inj (CQ c) a;cases x;cases y;simp[U1.val]at e;simp[e]
def cG:au->Option Nat
 | .map b=>b
 | _=>none
theorem J8{k:TypeId}(h:w.ownsMap prog k R b n D)(d:q9 S w w')(a:¬S b):w'.ownsMap prog k R b n D:=by obtain⟨es,c,hb,r⟩:=h;exact⟨es,c,(d.block b (j9 hb) a).trans hb,r⟩
theorem xE(h:w.mapTurned w' b):q9 (λk=>k=b) w w':=by have a:=h.grown;exact⟨a.os,a.tape,a.output,a.size,λk d c=>a.block k d (λe=>c my)⟩
open Classical in
noncomputable def oZ{α:Type}(K:List α)(x:α):List α:=if x∈K then K else K++[x]
theorem Hf{α:Type}{K:List α}{x:α}(h:x∈K):oZ K x=K:=by unfold oZ;exact yE
theorem uV{α:Type}{K:List α}{x:α}(h:¬x∈K):oZ K x=K++[x]:=by unfold oZ;rw[aF h]
theorem zN(w:ao):(zeroValue 3).run prog w=.ok (iI 0) w:=aG
theorem WO{k:TypeId}(h:w.ownsMap prog k R b n D){c:Nat}(e:Maps.size D=c):w.ownsMap prog k R b c D:=by obtain⟨es,a,hb,d,_,rfl⟩:=h;refine⟨es,a,hb,d,?_,rfl⟩;rw[<-e];exact Nat.le_of_eq (length_read (P:=prog) (k:=k) (R0:=R) es).symm
theorem WQ(a:Nat)(W:ao):(binOp BinOp.eql 80 (.map (some a)) (.map none)).run prog W=.ok (af) W:=aG
theorem qD1(W:ao):(binOp BinOp.eql 80 (.map none) (.map none)).run prog W=.ok (ah) W:=aG
structure qb(w:World)(tv mv:Value)(K:List Z7):Prop where
 own:w.ownsRow 0 145 6 tv K.length (K.flatMap Z7.cells)
 nd:K.Nodup
 ok:∀ k∈K,k.Ok
 map:(mv=.map none/\K=[])\/∃ mb D,mv=.map (some mb)/\w.ownsMap prog 145 (plainElem prog 3) mb K.length D/\gE lV Z7.Ok (fun _=>True) K D K.length
 sep:∀ g,tv.ownBlock=some g->¬cG mv=some g
theorem qb.ext{tv mv:au}{K:List Z7}(h:qb w tv mv K)(hx:q9 S w w')(h1:∀g,tv.ownBlock=some g->¬S g)(h2:∀g,cG mv=some g->¬S g):qb w' tv mv K:=ZfQ
def CS(w:ao)(sb:Nat)(nv:au)(xs:PX)(K:List Z7)(x:Z7)(e:Ending)(w':ao):Prop :=
 ∃ (i:Nat) (a b:au),e=.returned (iI i)/\(oZ K x)[i]?=some x/\w'.heap[sb]?=some (.cells #[nv,a,b,xs.at_,xs.am,xs.fs,xs.ks,xs.vd,xs.ml] 98)/\qb w' a b (oZ K x)/\q9 (fun k=>k=sb\/xs.ts.ownBlock=some k\/cG xs.tm=some k) w w' /\
  (∀ k,a.ownBlock=some k->xs.ts.ownBlock=some k\/w.heap.size<=k)/\(∀ k,cG b = some k->cG xs.tm=some k\/w.heap.size<=k)
theorem WT{w0 f:ao}{mb g c:Nat}{K:List Z7}{x:Z7}(h:qb w xs.ts xs.tm K)(hx:x.Ok)(hn:¬x∈K)(l:q9 (λk=>k=sb) w w0)(d:w0.grownBy f xs.ts.ownBlock)(ck:f.ownsRow 0 145 6 (az g (K.length+1) c) (K.length+1) (K.flatMap Z7.cells++x.cells))(aV:xs.ts.ownBlock=some g\/w.heap.size<=g)(n:¬g=mb)(o:¬g=sb)(Hg:¬mb=sb)(Hh:cG xs.tm=some mb\/w.heap.size<=mb)(h2:q9 (λk=>k=sb) f w2)(i:gE lV Z7.Ok (λ_=>True) K D K.length)(j:Maps.Tidy D)(WU:W.ownsMap prog 145 (plainElem prog 3) mb (K.length+1) (D.put (lV x) (.lit (.int .i64 K.length))))(h3:q9 (λk=>k=mb) w2 W)(kW:w2.heap[sb]?=ad #[nv,(az g (K.length+1) c),(.map (some mb)),xs.at_,xs.am,xs.fs,xs.ks,xs.vd,xs.ml] 98):CS w sb nv xs K x (.returned (iI K.length)) W:=by have hk:WideAt.IsKeyLit (lV x):=q'.key (CP hx);have Hi:=WB i j hk h.ok hx (λ_ m e=>WM m hx e) hn;have p:=l.size;refine⟨K.length,az g (K.length+1) c,.map (some mb),rfl,?_,?_,⟨?_,?_,?_,?_,?_⟩,?_,?_,?_⟩;rw[uV hn];simp;exact Zib;exact Zjl;exact Zgk;exact Zgh;exact Zhz;exact ZhL;have e1:q9 (λk=>k=sb\/xs.ts.ownBlock=some k\/cG xs.tm=some k) w f:=(l.mono (λ_ _ e=>.inl e)).grown d (λk hk _=>.inr (.inl hk));exact Zgd;intro k hk;exact R1;intro k hk;simp[cG]at hk;subst hk;exact Hh
theorem qN7{K:List Z7}(x:Z7)(I:w.heap[sb]?=ad #[nv,xs.ts,xs.tm,xs.at_,xs.am,xs.fs,xs.ks,xs.vd,xs.ml] 98)(h:qb w xs.ts xs.tm K)(hx:x.Ok)(T:∀k,xs.ts.ownBlock=some k->¬k=sb)(C:∀k,cG xs.tm=some k->¬k=sb)(hlen:K.length<=10000000):cP 188 #[.pointer (some (aD sb 1)),x.val] w (CS w sb nv xs K x):=by
 show cP 188 #[.pointer (some (aD sb 1)),.agg #[ai x.nm,iI x.ar,iI x.a0,iI x.a1,iI x.a2,iI x.v]] w (CS w sb nv xs K x);have lE:keyOf prog 145 (.agg #[ai x.nm,iI x.ar,iI x.a0,iI x.a1,iI x.a2,iI x.v])=some (lV x):=CP hx;have G:=q8 lE;clear lE;obtain⟨ts,_,at_,O,R,ks,P,Q⟩:=xs;simp only at I h T C;have cC:=j9 I;have cK:Hid (eX w (w.alloc (.cells #[ai x.nm,iI x.ar,iI x.a0,iI x.a1,iI x.a2,iI x.v] 145))):=(rr w).alloc _;have ui:Hid ((w.alloc (.cells #[ai x.nm,iI x.ar,iI x.a0,iI x.a1,iI x.a2,iI x.v] 145)).heap[w.heap.size]?=ad #[ai x.nm,iI x.ar,iI x.a0,iI x.a1,iI x.a2,iI x.v] 145):=aN w _;by_cases lj:x∈K;{obtain⟨i,hi⟩:=Fi.1 lj;rcases h.map with⟨_,e⟩|⟨mb,D,N,Z,hm⟩;subst e;exact absurd lj aC;subst N;have u:∀n,(Instr.lookup 80 (.map (some mb)) (.agg #[ai x.nm,iI x.ar,iI x.a0,iI x.a1,iI x.a2,iI x.v]) true).run prog ((w.alloc (.cells #[ai x.nm,iI x.ar,iI x.a0,iI x.a1,iI x.a2,iI x.v] 145)).drewN n)=.ok (.tuple #[iI i,ah]) ((w.alloc (.cells #[ai x.nm,iI x.ar,iI x.a0,iI x.a1,iI x.a2,iI x.v] 145)).drewN n):=by{intro n;have sL:=J8 Z (((eR w).alloc (.cells #[ai x.nm,iI x.ar,iI x.a0,iI x.a1,iI x.a2,iI x.v] 145)).drewN n) id;obtain⟨v,ps,CT,hv⟩:=sL.look_ok q' BP (zN _) (tR qE aE) G;exact Zg0};obtain⟨c1,c2⟩:=cz I 1 2;obtain⟨H,KB,HI⟩:=aQ h I hi;have Hj:Hid (eX w (w.alloc (.cells #[ai x.nm,iI x.ar,iI x.a0,iI x.a1,iI x.a2,iI x.v] 145))):=(rr w).alloc _;have A:=u 0;have qd:¬sb=w.heap.size:=aA;clear h I Z hm hi;delta cP;go_in;exact ZfC};have HX:=q8 hx;obtain⟨dV,_⟩:=aH T C;obtain⟨y,s,NC⟩:∃y s,ts=.slice y K.length s:=Zjb;subst NC;rcases h.map with⟨N,hK⟩|⟨mb,D,N,Z,hm⟩;{subst N;have u:∀n,(Instr.lookup 80 (.map none) (.agg #[ai x.nm,iI x.ar,iI x.a0,iI x.a1,iI x.a2,iI x.v]) true).run prog ((w.alloc (.cells #[ai x.nm,iI x.ar,iI x.a0,iI x.a1,iI x.a2,iI x.v] 145)).drewN n)=.ok (.tuple #[iI 0,af]) ((w.alloc (.cells #[ai x.nm,iI x.ar,iI x.a0,iI x.a1,iI x.a2,iI x.v] 145)).drewN n):=by{intro n;have e:=Maps.look_nil (w:=(w.alloc (.cells #[ai x.nm,iI x.ar,iI x.a0,iI x.a1,iI x.a2,iI x.v] 145)).drewN n) true q' BP (zN _) G;exact my};obtain⟨c1,c2,f2⟩:=qL I 1 2 2;have A:=u 0;have qd:¬sb=w.heap.size:=aA;have WV:=@run_makeMap prog;have CU:=qD1;obtain⟨HK,H,KB⟩:=aQ hK h I;clear h I hx T C hK;delta cP;go_in;go_wp2;go_quiet (fail);obtain⟨B,dQ⟩:∃B,(w.alloc (.cells #[ai x.nm,iI x.ar,iI x.a0,iI x.a1,iI x.a2,iI x.v] 145)).drewN nq=B:=⟨_,rfl⟩;have mR:Hid (eX w B):=RW;have S:=q8 ((mR.block sb cC id).trans KB);have ND:Hid (B.heap[w.heap.size]?=ad #[ai x.nm,iI x.ar,iI x.a0,iI x.a1,iI x.a2,iI x.v] 145):=R9;have jX:=j9 S;have NF:=j9 ND;rw[dQ];clear dQ u A c1 c2 f2;obtain⟨c1,c2,f2⟩:=qL S 1 2 2;go_wp2;obtain⟨mb,U⟩:∃mb,mb=B.heap.size:=⟨_,rfl⟩;obtain⟨D,hD⟩:∃D:DataW Unit,D=.map []:=⟨_,rfl⟩;obtain⟨V,dQ⟩:∃V,(B.setCell (aD sb 2) (.map (some B.heap.size))).alloc (.map #[] 0)=V:=⟨_,rfl⟩;have Y:(B.setCell (aD sb 2) (.map (some B.heap.size))).heap.size=B.heap.size:=aC;have CV:Hid (q9 (λk=>k=sb) B V):=by{rw[<-dQ];exact((q9.refl (λk=>k=sb) _).sc sb 2 _).alloc _};have HV:Hid (q9 (λk=>k=sb) w V):=(mR.M).trans CV;have KV:Hid (V.heap[sb]?=ad #[nv,.slice y K.length s,.map (some mb),at_,O,R,ks,P,Q] 98):=by{rw[<-dQ,U];exact(gL _ _ sb (by rw[Y];exact jX)).trans (X6 S 2 _)};have X:Hid (V.heap[w.heap.size]?=ad #[ai x.nm,iI x.ar,iI x.a0,iI x.a1,iI x.a2,iI x.v] 145):=(CV.block _ NF EW).trans ND;have J:Hid (¬mb=sb):=by{show ¬_;omega};have uW:Hid (V.ownsMap prog 145 (plainElem prog 3) mb K.length D):=by{have e:=World.ownsMap_made (H:=Unit) (B.setCell (aD sb 2) (.map (some B.heap.size))) prog 145 (plainElem prog 3);rw[Y,dQ]at e;rw[U,hD,HK.o];exact e};have re:Hid (gE lV Z7.Ok (λ_=>True) K D K.length):=by{rw[hD,HK.o];exact WA};have xF:Hid (Maps.Tidy D):=by{rw[hD];exact tidy_empty};have W:Hid (cG (.map none)=some mb\/w.heap.size<=mb):=.inr Zcj;have uX:Hid (∀g,(Value.slice y K.length s).ownBlock=some g->¬g=mb):=λg hg e=>ZjD;rw[dQ,<-U];clear dQ U hD c1 c2 f2 S ND CU Y;have xG:=j9 KV;have E:=j9 X;obtain⟨c1,c2⟩:=cz KV 1 2;obtain⟨x0,x1,x2,x3,x4,x5⟩:=pG X 0 1 2 3 4 5;obtain⟨i0,hi,cA,cg,cq⟩:=bJ Hc;have NG:=WQ mb;have sM:=q8 (j8 H.own HV (λk hk e=>dV k hk e));go_wp2;go_region_law ((refine step_append_lies _ (by rfl) _ _ _ (by rfl) 0 145 i0 _ 6 56 yL hi cA cg cq rfl aA (.slice y K.length s) K.length (K.flatMap Z7.cells) (by rfl) ((sM.alloc _).drew) (aD V.heap.size 0) 1 1 x.cells (by rfl) (by rfl) (World.news_of_block (cs:=#[ai x.nm,iI x.ar,iI x.a0,iI x.a1,iI x.a2,iI x.v]) (t:=145) (fr:=(0,0)) (aN V _)) ZiC aA bS aA (aY _) (V.heap.size+1) aC ?_;intro g r w2 c b aV sN;have l:w2.heap[sb]?=ad #[nv,.slice y K.length s,.map (some mb),at_,O,R,ks,P,Q] 98:=(b.block sb aM (λe=>dV sb e.symm rfl)).trans ((gL V _ sb xG).trans KV);have d1:=z7 l 1;have uY:=Q9 l 1));all_goals obtain⟨p,gV⟩:∃p,w2.setCell (aD sb 1) (az g (K.length+1) r)=p:=⟨_,rfl⟩;have m:q9 (λk=>(Value.slice y K.length s).ownBlock=some k) V w2:=((((eR V).alloc _).drew).M).grown b (λk hk _=>hk);have j:q9 (λk=>k=sb) w2 p:=Zhh;have z:p.heap[sb]?=ad #[nv,(az g (K.length+1) r),.map (some mb),at_,O,R,ks,P,Q] 98:=by{rw[<-gV];exact X6 l 1 _};have F:p.heap[w.heap.size]?=ad #[ai x.nm,iI x.ar,iI x.a0,iI x.a1,iI x.a2,iI x.v] 145:=(j.block _ (bD E m.size) EW).trans ((m.block _ E (λe=>R')).trans X);have L:p.drew.ownsMap prog 145 (plainElem prog 3) mb K.length D:=J8 (J8 (J8 uW m (λe=>uX mb e rfl)) j J) ((eR p).drew) id;obtain⟨W4,dZ,q,d⟩:=L.store q' BP bS G (tR qE (zM (n:=(K.length:Int)) ⟨aA,aA⟩));obtain⟨e1,e2⟩:=cz z 1 2;obtain⟨y0,y1,y2,y3,y4,y5⟩:=pG F 0 1 2 3 4 5;have HN:Hid (CS w sb nv ⟨.slice y K.length s,.map none,at_,O,R,ks,P,Q⟩ K x (.returned (iI K.length)) W4):=WT (xs:=⟨.slice y K.length s,.map none,at_,O,R,ks,P,Q⟩) H HX lj ((HV.alloc _).drew) b c (aV.imp id (λe=>Sh)) RC RR J W j re xF q ((((eR p).drew).M).trans (xE d)) z;rw[gV];clear gV m j z F L q d l c b aV c1 c2 d1 uY;go_wp2;go_region;all_goals go_wp2;go_ret;exact HN};subst N;have u:∀n,(Instr.lookup 80 (.map (some mb)) (.agg #[ai x.nm,iI x.ar,iI x.a0,iI x.a1,iI x.a2,iI x.v]) true).run prog ((w.alloc (.cells #[ai x.nm,iI x.ar,iI x.a0,iI x.a1,iI x.a2,iI x.v] 145)).drewN n)=.ok (.tuple #[iI 0,af]) ((w.alloc (.cells #[ai x.nm,iI x.ar,iI x.a0,iI x.a1,iI x.a2,iI x.v] 145)).drewN n):=by intro n;have sL:=J8 Z (((eR w).alloc (.cells #[ai x.nm,iI x.ar,iI x.a0,iI x.a1,iI x.a2,iI x.v] 145)).drewN n) id;obtain⟨v,ps,CT,hv⟩:=sL.look_ok q' BP (zN _) (tR qE aE) G;exact ZfS
 obtain⟨c1,c2⟩:=cz I 1 2;have A:=u 0;have qd:¬sb=w.heap.size:=aA;obtain⟨xF,re,HO,H,KB⟩:=dS (Z.tidy q') hm Z h I;have uX:Hid (∀g,(Value.slice y K.length s).ownBlock=some g->¬g=mb):=λg hg e=>h.sep g hg tC;have J:Hid (¬mb=sb):=C mb rfl;have W:Hid (cG (.map (some mb))=some mb\/w.heap.size<=mb):=.inl rfl;clear h I Z hm hx T C;delta cP;go_in;go_wp2;go_quiet (fail);obtain⟨V,dQ⟩:∃V,(w.alloc (.cells #[ai x.nm,iI x.ar,iI x.a0,iI x.a1,iI x.a2,iI x.v] 145)).drewN nq=V:=⟨_,rfl⟩;have mR:Hid (eX w V):=RW;have HV:Hid (q9 (λk=>k=sb) w V):=mR.M;have KV:=q8 ((mR.block sb cC id).trans KB);have X:Hid (V.heap[w.heap.size]?=ad #[ai x.nm,iI x.ar,iI x.a0,iI x.a1,iI x.a2,iI x.v] 145):=R9;have uW:=q8 (J8 HO mR id);rw[dQ];clear dQ u A c1 c2;have xG:=j9 KV;have E:=j9 X;obtain⟨c1,c2⟩:=cz KV 1 2;obtain⟨x0,x1,x2,x3,x4,x5⟩:=pG X 0 1 2 3 4 5;obtain⟨i0,hi,cA,cg,cq⟩:=bJ Hc;have NG:=WQ mb;have sM:=q8 (j8 H.own HV (λk hk e=>dV k hk e));go_wp2;go_region_law ((refine step_append_lies _ (by rfl) _ _ _ (by rfl) 0 145 i0 _ 6 56 yL hi cA cg cq rfl aA (.slice y K.length s) K.length (K.flatMap Z7.cells) (by rfl) ((sM.alloc _).drew) (aD V.heap.size 0) 1 1 x.cells (by rfl) (by rfl) (World.news_of_block (cs:=#[ai x.nm,iI x.ar,iI x.a0,iI x.a1,iI x.a2,iI x.v]) (t:=145) (fr:=(0,0)) (aN V _)) ZiC aA bS aA (aY _) (V.heap.size+1) aC ?_;intro g r w2 c b aV sN;have l:w2.heap[sb]?=ad #[nv,.slice y K.length s,.map (some mb),at_,O,R,ks,P,Q] 98:=(b.block sb aM (λe=>dV sb e.symm rfl)).trans ((gL V _ sb xG).trans KV);have d1:=z7 l 1;have uY:=Q9 l 1));all_goals obtain⟨p,gV⟩:∃p,w2.setCell (aD sb 1) (az g (K.length+1) r)=p:=⟨_,rfl⟩;have m:q9 (λk=>(Value.slice y K.length s).ownBlock=some k) V w2:=((((eR V).alloc _).drew).M).grown b (λk hk _=>hk);have j:q9 (λk=>k=sb) w2 p:=Zhh;have z:p.heap[sb]?=ad #[nv,(az g (K.length+1) r),.map (some mb),at_,O,R,ks,P,Q] 98:=by{rw[<-gV];exact X6 l 1 _};have F:p.heap[w.heap.size]?=ad #[ai x.nm,iI x.ar,iI x.a0,iI x.a1,iI x.a2,iI x.v] 145:=(j.block _ (bD E m.size) EW).trans ((m.block _ E (λe=>R')).trans X);have L:p.drew.ownsMap prog 145 (plainElem prog 3) mb K.length D:=J8 (J8 (J8 uW m (λe=>uX mb e rfl)) j J) ((eR p).drew) id;obtain⟨W4,dZ,q,d⟩:=L.store q' BP bS G (tR qE (zM (n:=(K.length:Int)) ⟨aA,aA⟩));obtain⟨e1,e2⟩:=cz z 1 2;obtain⟨y0,y1,y2,y3,y4,y5⟩:=pG F 0 1 2 3 4 5;have HN:Hid (CS w sb nv ⟨.slice y K.length s,.map (some mb),at_,O,R,ks,P,Q⟩ K x (.returned (iI K.length)) W4):=WT (xs:=⟨.slice y K.length s,.map (some mb),at_,O,R,ks,P,Q⟩) H HX lj ((HV.alloc _).drew) b c (aV.imp id (λe=>Sh)) RC RR J W j re xF q ((((eR p).drew).M).trans (xE d)) z;rw[gV];clear gV m j z F L q d l c b aV c1 c2 d1 uY;go_wp2;go_region;all_goals go_wp2;go_ret;exact HN
def WX(w:ao)(sb:Nat)(nv:au)(xs:PX)(K:List Z7)(n:Nat)(w':ao):Prop :=
 ∃ a,w'.heap[sb]?=some (.cells #[nv,a,xs.tm,xs.at_,xs.am,xs.fs,xs.ks,xs.vd,xs.ml] 98)/\qb w' a xs.tm (K.take n)/\q9 (fun k=>k=sb\/xs.ts.ownBlock=some k\/cG xs.tm=some k) w w'/\a.ownBlock=xs.ts.ownBlock
theorem qt2{K:List Z7}(b:n<=K.length):(K.flatMap Z7.cells).take (n*6)=(K.take n).flatMap Z7.cells:=by have hl:∀l:List Z7,(l.flatMap Z7.cells).length=l.length*6:=ZfU;have e:K.flatMap Z7.cells=(K.take n).flatMap Z7.cells++(K.drop n).flatMap Z7.cells:=RU;exact Zga
theorem qN9{K:List Z7}{x:Z7}(h:K[i]?=some x)(q:Nat)(d:q<6):(K.flatMap Z7.cells)[i*6+q]?=x.cells[q]?:=by obtain⟨_,hx⟩:=aX.1 h;have hl:∀l:List Z7,(l.flatMap Z7.cells).length=l.length*6:=ZfU;have e:K.take i++x::K.drop (i+1)=K:=Bm;have c:(K.take i++x::K.drop (i+1)).flatMap Z7.cells=(K.take i).flatMap Z7.cells++(x.cells++(K.drop (i+1)).flatMap Z7.cells):=aC;rw[e]at c;have b:((K.take i).flatMap Z7.cells).length=i*6:=ZjH;have f:x.cells.length=6:=rfl;rw[c,cB (by rw[b];omega),b,show i*6+q-i*6=q by omega,dx aA]
theorem NH{wr:ao}{a:au}{K:List Z7}(h:qb w xs.ts xs.tm K)(hn:n<=K.length)(eu:∀k,xs.ts.ownBlock=some k->¬k=sb)(gu:∀k,cG xs.tm=some k->¬k=sb)(hE:q9 (λk=>cG xs.tm=some k) w wr)(hm:(xs.tm=.map none/\K=[])\/∃mb D,xs.tm=.map (some mb)/\wr.ownsMap prog 145 (plainElem prog 3) mb (n+(K.length-K.length)) D/\gE lV Z7.Ok (nX K n K.length) K D (n+(K.length-K.length)))(ck:w2.ownsRow 0 145 6 a n ((K.flatMap Z7.cells).take (n*6)))(hx:q9 (λk=>xs.ts.ownBlock=some k) wr w2)(jd:a.ownBlock=xs.ts.ownBlock)(hW:q9 (λk=>k=sb) w2 W)(b:W.heap[sb]?=ad #[nv,a,xs.tm,xs.at_,xs.am,xs.fs,xs.ks,xs.vd,xs.ml] 98):WX w sb nv xs K n W:=by refine⟨a,b,⟨?_,h.nd.sublist (Fs n K),λk hk=>h.ok k (fG hk),?_,λk hk=>ZiD⟩,?_,jd⟩;rw[qt2 hn]at ck;have hl:(K.take n).length=n:=nC;exact Zhr;exact ZiY;exact Zgl
theorem qO0{K:List Z7}(n:Nat)(y:w.heap[sb]?=ad #[nv,xs.ts,xs.tm,xs.at_,xs.am,xs.fs,xs.ks,xs.vd,xs.ml] 98)(h:qb w xs.ts xs.tm K)(r:∀k,xs.ts.ownBlock=some k->¬k=sb)(m:∀k,cG xs.tm=some k->¬k=sb)(E:K.length<=10000000)(hn:n<=K.length):cP 65 #[.pointer (some (aD sb 1)),iI n] w λe w'=>e=.returned (.tuple #[])/\WX w sb nv xs K n w':=by
 obtain⟨ts,tm,at_,M,P,ks,N,O⟩:=xs;simp only at y h r m;have I:=j9 y;have NI:(ts=ae/\K.length=0)\/∃g tc,ts=az g K.length tc/\K.length<=tc/\tc<=9223372036854775807/\g<w.heap.size/\∀q,q<K.length*6->w.cell? (aD g q)=(K.flatMap Z7.cells)[q]?:=ZfF;rcases NI with⟨v,lk⟩|⟨g,tc,v,_,NJ,ds,c⟩;{clear E;have NK:K=[]:=yN.1 lk;have G:n=0:=aA;subst G v;have J:Hid ((tm=.map none/\K=[])\/∃mb D,tm=.map (some mb)/\w.ownsMap prog 145 (plainElem prog 3) mb (0+(K.length-K.length)) D/\gE lV Z7.Ok (nX K 0 K.length) K D (0+(K.length-K.length))):=Rv;have c1:=z7 y 1;have z:=I;obtain⟨H,KB,l,t,o⟩:=dS h y r m (j8 h.own ((eR w).drew) (λ_ _ f=>f));rw[lk]at o;clear h y r m;delta cP;go_in;go_wp2;go_loopw [13](λi wr=>i=iI 0/\wr=w)(λ_ _=>0);(case atStart=>exact ko);case round=>obtain⟨rfl,rfl⟩:=hrel;go_wp2;go_region_law (go_simp;go_wp2_with(go_at_call 100;refine(Nv o (aW 0) aA).mono ?_;rintro e w2 ⟨v',rfl,a,d,u⟩;obtain⟨va,vc,rfl⟩:=Z3 a;have b:w2.heap[sb]?=ad #[nv,ae,tm,at_,M,P,ks,N,O] 98:=(d.block sb z (λe=>l sb e rfl)).trans KB;have d1:=z7 b 1;have W:=Q9 b 1));all_goals go_wp2;go_end0;refine⟨rfl,?_⟩;exact NH (xs:=⟨ae,tm,at_,M,P,ks,N,O⟩) H (aY _) l t (rr _) J a (((rr _).drew).trans d) u ((q9.refl (λk=>k=sb) w2).sc sb 1 _) (X6 b 1 _)};by_cases lk:K.length=0;{clear E c NJ;rw[lk]at v;have NK:K=[]:=yN.1 lk;have G:n=0:=aA;subst G v;have J:Hid ((tm=.map none/\K=[])\/∃mb D,tm=.map (some mb)/\w.ownsMap prog 145 (plainElem prog 3) mb (0+(K.length-K.length)) D/\gE lV Z7.Ok (nX K 0 K.length) K D (0+(K.length-K.length))):=Rv;have c1:=z7 y 1;have z:=I;obtain⟨H,KB,l,t,o⟩:=dS h y r m (j8 h.own ((eR w).drew) (λ_ _ f=>f));rw[lk]at o;clear h y r m;delta cP;go_in;go_wp2;go_loopw [13](λi wr=>i=iI 0/\wr=w)(λ_ _=>0);(case atStart=>exact ko);case round=>obtain⟨rfl,rfl⟩:=hrel;go_wp2;go_region_law (go_simp;go_wp2_with(go_at_call 100;refine(Nv o (aW 0) aA).mono ?_;rintro e w2 ⟨v',rfl,a,d,u⟩;obtain⟨va,vc,rfl⟩:=Z3 a;have b:w2.heap[sb]?=ad #[nv,az g 0 tc,tm,at_,M,P,ks,N,O] 98:=(d.block sb z (λe=>l sb e rfl)).trans KB;have d1:=z7 b 1;have W:=Q9 b 1));all_goals go_wp2;go_end0;refine⟨rfl,?_⟩;exact NH (xs:=⟨az g 0 tc,tm,at_,M,P,ks,N,O⟩) H (aY _) l t (rr _) J a (((rr _).drew).trans d) u ((q9.refl (λk=>k=sb) w2).sc sb 1 _) (X6 b 1 _)};subst v;rcases h.map with⟨CW,hK⟩|⟨mb,D,CW,ho,hm⟩;exact absurd (by rw[hK];rfl) lk;subst CW;obtain⟨A,_,hA2⟩:∃A,(if tc=n then some ((aD g 0):Addr)else some ⟨g,n*6,none⟩)=some A/\(n<tc->A=⟨g,n*6,none⟩):=Zjk;have hnc:n<=tc:=aA;have c1:=z7 y 1;obtain⟨re,HO,H,KB,B,qe,l,t⟩:=cT (Nx hm hn) ho h y c hA2 r m;have uZ:Hid (¬mb=sb):=m mb rfl;have hml:=ho.lt;clear h y ho hm c hA2 r m;delta cP;go_in;go_wp2;go_loopw [13](λi wr=>∃(j:Nat)(D:DataW Unit),n<=j/\j<=K.length/\i=iI ((j-n:Nat):Int)/\q9 (λk=>k=mb) w wr/\wr.ownsMap prog 145 (plainElem prog 3) mb (n+(K.length-j)) D/\gE lV Z7.Ok (nX K n j) K D (n+(K.length-j)))(λi _=>K.length-n-(intOf i).toNat);case atStart=>exact Zgi
 case round=>clear c1;obtain⟨j,Dj,NL,_,rfl,hE,U,R⟩:=hrel;have C:=(hE.block sb I (λe=>uZ e.symm)).trans KB;obtain⟨c1,_⟩:=cz C 1 2;have z:=j9 C;obtain⟨HE,L,Z,CX⟩:=bH hE U R C;clear hE U R C;by_cases aZ:j<K.length;{obtain⟨x,hx⟩:∃x,K[j]?=some x:=⟨_,aU aZ⟩;have hAe:=qe aA;subst hAe;have X:=H.ok x (bg hx);have V:keyOf prog 145 (.agg #[ai x.nm,iI x.ar,iI x.a0,iI x.a1,iI x.a2,iI x.v])=some (lV x):=CP X;have CY:¬g=mb:=λe=>H.sep g rfl tC;have F:∀q,q<6->wr.cell? ⟨g,j*6+q,none⟩=x.cells[q]?:=by{intro q hq;rw[HE.o.cell (p:=⟨g,j*6+q,none⟩) ds CY,B.o _ aA];exact qN9 hx q hq};have z0:wr.cell? ⟨g,j*6,none⟩=some (ai x.nm):=F 0 aE;have z1:wr.cell? ⟨g,j*6+1,none⟩=some (iI x.ar):=F 1 aE;have z2:wr.cell? ⟨g,j*6+2,none⟩=some (iI x.a0):=F 2 aE;have z3:wr.cell? ⟨g,j*6+3,none⟩=some (iI x.a1):=F 3 aE;have z4:wr.cell? ⟨g,j*6+4,none⟩=some (iI x.a2):=F 4 aE;have z5:wr.cell? ⟨g,j*6+5,none⟩=some (iI x.v):=F 5 aE;have Y:(wr.alloc (.cells #[ai x.nm,iI x.ar,iI x.a0,iI x.a1,iI x.a2,iI x.v] 145)).drew.ownsMap prog 145 (plainElem prog 3) mb (n+(K.length-j)) Dj:=(L.alloc _).drew;obtain⟨W1,_,T,s⟩:=Y.drop q' BP V 0;have Q:=q8 (WC Z (L.tidy q') H.nd H.ok (λ_ hy e=>WM hy X e) NL hx);have S:q9 (λk=>k=mb) w W1:=(((HE.alloc _).drew).trans (xE s));obtain⟨jN,zo⟩:=aH S (WO T Q.size);have e4:n*6+(j-n)*6=j*6:=aA;clear T s Y V hx F S;go_wp2;go_region;all_goals go_wp2;go_roundw;(case measure=>exact bf);case rel=>exact⟨j+1,_,aA,aA,kv,jN,zo,Q⟩};have u':j=K.length:=aA;subst u';have o:=q8 (j8 H.own HE.drew (λk hk e=>H.sep k hk tC));go_wp2;go_region_law (go_simp;go_wp2_with(go_at_call 100;refine(Nv o hn aA).mono ?_;rintro e w2 ⟨v',rfl,a,d,u⟩;obtain⟨va,vc,rfl⟩:=Z3 a;have b:w2.heap[sb]?=ad #[nv,az g K.length tc,.map (some mb),at_,M,P,ks,N,O] 98:=(d.block sb z (λe=>l sb e rfl)).trans CX;have d1:=z7 b 1;have W:=Q9 b 1));all_goals go_wp2;go_end0;refine⟨rfl,?_⟩;exact NH (xs:=⟨az g K.length tc,.map (some mb),at_,M,P,ks,N,O⟩) H hn l t (HE.mono (λ_ _ e=>tC)) (.inr ⟨mb,Dj,rfl,L,Z⟩) a (((rr wr).drew).trans d) u ((q9.refl (λk=>k=sb) w2).sc sb 1 _) (X6 b 1 _)
noncomputable def ix(T ps:List Nd)(q:Nat):Int:=match ps[q]? with
 | some p=>(idx T p:Int)
 | none=>0
noncomputable def cX(T:List Nd):Nd->Z7
 | .mk k w v ps=>if k=4 then⟨ByteArray.empty,0,0,0,0,v⟩ else⟨w,ps.length,ix T ps 0,ix T ps 1,ix T ps 2,0⟩
theorem WY(h:T<+:T')(a:∀p∈ps,p∈T)(q:Nat):ix T' ps q=ix T ps q:=by unfold ix;split;rename_i p b;rw[Gx h (a p (bg b))];rfl
theorem NM(h:T<+:T')(b:∀p∈J6 x,p∈T):cX T' x=cX T x:=by cases x with|mk k w v ps=>have a:∀p∈ps,p∈T:=b;simp only[cX,WY h a]
theorem zO(h:x∈T):idx T x<T.length:=(aX.1 (k8 h)).1
theorem zP:Sm 0:=⟨aE,aE⟩
theorem CZ(a:∀p∈ps,p∈T)(c:T.length<=10000000)(q:Nat):Sm (ix T ps q):=by unfold ix;split;rename_i p b;have:=zO (a p (bg b));exact rP;exact⟨aE,aE⟩
theorem jg0{w:ax}(h:X7 w.toList=true):w.size<=8:=by simp only[X7,jo,BF]at h;rw[<-Z6];exact h.2.2
theorem WZ(g:Y2 x)(c:∀p∈J6 x,p∈T)(b:T.length<=10000000):(cX T x).Ok:=by cases g with|num j i=>(rw[cX,aJ rfl];refine⟨?_,zP,zP,zP,zP,?_⟩;{show ByteArray.empty.size<=1000;decide};exact⟨KJ,KJ⟩)| @app w ps d f e=>rw[cX,aF aE];have a:∀p∈ps,p∈T:=c;have h:=jg0 d;exact⟨KJ,⟨KJ,KJ⟩,CZ a b 0,CZ a b 1,CZ a b 2,zP⟩
theorem NN{qs:List Nd}(c:∀p∈ps,p∈T)(d:∀p∈qs,p∈T)(e:ps.length=qs.length)(h:ix T ps i=ix T qs i):ps[i]?=qs[i]?:=by unfold ix at h;cases a:ps[i]? with|none=>(have:qs[i]?=none:=by{rw[List.getElem?_eq_none_iff]at a⊢;omega};rw[this])|some p=>have f:=(aX.1 a).1;have b:qs[i]?=some qs[i]:=aU aA;rw[a,b]at h;simp only at h;have:=zm (c p (bg a)) (d _ (bg b)) aA;rw[b,this]
theorem ju8{y:Nd}(t:Y2 x)(j:Y2 y)(e:∀p∈J6 x,p∈T)(f:∀p∈J6 y,p∈T)(h:cX T x=cX T y):x=y:=by cases t with|num z v=>(cases j with|num r m=>(rw[cX,aJ rfl,cX,aJ rfl]at h;simp at h;rw[h])| @app w ps d o g=>rw[cX,aJ rfl,cX,aF aE]at h;simp only[Z7.mk.injEq]at h;rw[<-h.1,se]at d;exact absurd d aE)| @app w ps d o g=>cases j with|num r m=>(rw[cX,aF aE,cX,aJ rfl]at h;simp only[Z7.mk.injEq]at h;rw[h.1,se]at d;exact absurd d aE)| @app w' qs k q s=>rw[cX,aF aE,cX,aF aE]at h;simp only[Z7.mk.injEq]at h;obtain⟨rfl,_,l,u,n,_⟩:=h;have c:ps.length=qs.length:=aA;have a:∀p∈ps,p∈T:=e;have b:∀p∈qs,p∈T:=f;have:ps=qs:=by{apply Fq;intro i;match i with|0=>{exact NN a b c l}|1=>{exact NN a b c u}|2=>{exact NN a b c n}|i+3=>exact ZjF};rw[this]
noncomputable def keys(T:List Nd):List Z7:=T.map (cX T)
theorem H7(T:List Nd):(keys T).length=T.length:=by simp[keys]
theorem W6(h:T<+:T')(b:Cl T):T.map (cX T')=keys T:=by unfold keys;apply Fl;intro _ c;exact NM h (λ_ a=>b.part c a)
theorem Xa(g:Cl T)(n:Y2 x)(h:∀p∈J6 x,p∈T):keys (dj T x)=oZ (keys T) (cX T x):=by
 by_cases a:x∈T;rw[uG a,Hf (show cX T x∈keys T from dn.2 ⟨x,a,rfl⟩)];have c:¬cX T x∈keys T:=by intro j;obtain⟨y,f,e⟩:=dn.1 j;obtain⟨i,m⟩:=Fi.1 f;have:=ju8 (g i y m).1 n (λp d=>g.part f d) h e;exact a (this▸f)
 rw[uH a,uV c];have b:T<+:T++[x]:=List.prefix_append _ _;have l:=W6 b g;have k:=NM b h;show List.map _ _=_;rw[pE,l,List.map_cons,List.map_nil,k]
theorem jg1(b:Cl T)(n:Nat):keys (T.take n)=(keys T).take n:=by have a:=W6 (List.take_prefix n T) (b.take n);unfold keys at*;rw[<-wC,a]
theorem jg2(f:Cl T)(g:Y2 x)(c:∀p∈J6 x,p∈T)(b:(keys (dj T x)).Nodup)(h:(oZ (keys T) (cX T x))[i]?=some (cX T x)):i=idx (dj T x) x:=by
 rw[<-Xa f g c]at h;have d:x∈dj T x:=sC.2 (.inr rfl);have e:(keys (dj T x))[idx (dj T x) x]?=some (cX T x):=by unfold keys;rw[de,k8 d];simp only[Option.map_some,yG];exact NM Gw c
 obtain⟨hi,e1⟩:=aX.1 h;obtain⟨hj,e2⟩:=aX.1 e;have Hk:=Fj.1 b;rcases Fk i (idx (dj T x) x)with aZ|a|xH;exact ZbQ;exact a;exact ZbR
structure TS(w:World)(sb:Nat)(nv:Value)(xs:PX)(T:List Nd):Prop where
 aL:w.heap[sb]?=some (.cells #[nv,xs.ts,xs.tm,xs.at_,xs.am,xs.fs,xs.ks,xs.vd,xs.ml] 98)
 row:qb w xs.ts xs.tm (keys T)
 cl:Cl T
 nd:T.Nodup
 s1:∀ k,xs.ts.ownBlock=some k->¬k=sb
 s2:∀ k,cG xs.tm=some k->¬k=sb
def TF(sb:Nat)(xs:PX)(k:Nat):Prop:=k=sb\/xs.ts.ownBlock=some k\/cG xs.tm=some k
theorem TS.ext(h:TS w sb nv xs T)(c:q9 S w w')(a:∀k,TF sb xs k->¬S k):TS w' sb nv xs T:=⟨(c.block sb (j9 h.aL) (a sb (.inl rfl))).trans h.aL,h.row.ext c (λg b=>a g (.inr (.inl b))) (λg b=>a g (.inr (.inr b))),h.cl,h.nd,h.s1,h.s2⟩
theorem TS.lt(h:TS w sb nv xs T):∀k,TF sb xs k->k<w.heap.size:=by rintro k (rfl|e|e);exact j9 h.aL;exact(h.row.own.lt k e).2;rcases h.row.map with⟨e2,_⟩|⟨_,_,e2,a,_⟩;exact Sa;rw[e2]at e;simp[cG]at e;subst e;exact a.lt
def ep(w:ao)(sb:Nat)(nv:au)(xs:PX)(T':List Nd)(i:Nat)(e:Ending)(w':ao):Prop :=
 e=.returned (iI i)/\∃ bh gW,TS w' sb nv { xs with ts:=bh,tm:=gW } T'/\q9 (TF sb xs) w w'/\(∀ k,TF sb { xs with ts:=bh,tm:=gW } k->TF sb xs k\/w.heap.size<=k)
theorem Xb(h:TS w sb nv xs T)(c:Y2 x)(b:∀p∈J6 x,p∈T)(l:T.length<=10000000):cP 188 #[.pointer (some (aD sb 1)),(cX T x).val] w (ep w sb nv xs (dj T x) (idx (dj T x) x)):=by refine(qN7 (cX T x) h.aL h.row (WZ c b l) h.s1 h.s2 (by rw[H7];exact l)).mono ?_;rintro e _ ⟨_,j,f,rfl,o,hb,i,n,h1,h2⟩;rw[<-Xa h.cl c b]at i;have d:=jg2 h.cl c b i.nd o;subst d;have m:=j9 h.aL;refine⟨rfl,j,f,⟨hb,i,h.cl.put c b,zl h.nd,λk g e=>?_,λk g e=>?_⟩,n,?_⟩;rcases h1 k g with a|a;exact h.s1 k a e;omega;rcases h2 k g with a|a;exact h.s2 k a e;omega;exact Zj8
theorem PN.within{D:aj}{cs:ak}{nd:Nd}(h:PN w D cs nd):PN w (λk=>D k/\k<w.heap.size) cs nd:=by induction h with|mk a c f e _ d=>exact PN.mk a c f (λg b=>⟨e g b,(a.lt g b).2⟩) d
theorem Xc:∀{kids:List ak},(∀cs∈kids,cs.length=4)->∀{i:Nat}{cs:ak},kids[i]?=some cs->∀q,q<4->kids.flatten[i*4+q]?=cs[q]? |[],_,i,cs,h,_,_=>absurd h aC|k::ks,hl,0,cs,h,q,hq=>by{simp at h;subst h;have:=hl k aC;rw[List.flatten_cons,dx aA];exact kv}|k::ks,hl,i+1,cs,h,q,hq=>by have a:=hl k aC;rw[List.flatten_cons,cB aA,a,show(i+1)*4+q-4=i*4+q by omega];exact Xc (λc b=>hl c (eO _ b)) ov q hq
theorem Hl{D:aj}{pv:au}{kids:List ak}(r:w.ownsRow 0 115 4 pv ps.length kids.flatten)(E:∀cs∈kids,cs.length=4)(J:kids.length=ps.length)(x:∀g,pv.ownBlock=some g->D g)(y:∀(i:Nat)(cs:ak)(p:Nd),kids[i]?=some cs->ps[i]?=some p->PN w D cs p):∃a cap,pv=.slice a ps.length cap/\ps.length<=cap/\cap<=9223372036854775807/\∀i p,ps[i]?=some p->∃g k d h f o c,a=some (aD g 0)/\g<w.heap.size/\D g/\w.cell? ⟨g,i*4,none⟩=some (iI k)/\w.cell? ⟨g,i*4+1,none⟩=some (ai d)/\w.cell? ⟨g,i*4+2,none⟩=some (iI h)/\w.cell? ⟨g,i*4+3,none⟩=some (.slice f o c)/\PN w D [iI k,ai d,iI h,.slice f o c] p:=by rcases r.2 with⟨e,e0⟩|⟨g,cap,_,hv,_,F,B,h2,_⟩;refine⟨none,0,yt,aA,aA,λi p hp=>?_⟩;exact ZiL;refine⟨some (aD g 0),cap,hv,B,ZcT,λi p hp=>?_⟩;have I:=(aX.1 hp).1;obtain⟨cs,t⟩:∃cs,kids[i]?=some cs:=⟨_,aU aA⟩;have n:=y i cs p t hp;have l:=n;cases n with| @mk k h d m v s j G C H z=>obtain⟨f,c,rfl⟩:=Z3 j;have b:∀q,q<4->w.cell? ⟨g,i*4+q,none⟩=[iI k,ai d,iI h,.slice f m.length c][q]?:=by{intro q A;have u:=r;rw[hv]at u;rw[u.cellAt _ aA];exact Xc E t q A};exact⟨g,k,d,h,f,m.length,c,rfl,j9 F,x g E2,b 0 aE,b 1 aE,b 2 aE,b 3 aE,l⟩
noncomputable def rf(w:ByteArray)(T ps:List Nd)(j:Nat):Array Value:=#[.string w,iI ps.length,iI (if 0<j then ix T ps 0 else 0),iI (if 1<j then ix T ps 1 else 0),iI (if 2<j then ix T ps 2 else 0),iI 0]
theorem jL6{w:ax}(a:j<3):(rf w T ps j).setIfInBounds (2+j) (iI (ix T ps j))=rf w T ps (j+1):=by match j,a with|0,_=>{rfl}|1,_=>{rfl}|2,_=>rfl
theorem ju9(w:ax)(T ps:List Nd):rf w T ps 0=#[ai w,iI ps.length,iI 0,iI 0,iI 0,iI 0]:=rfl
theorem jv0{w:ax}:rf w T ps ps.length=#[ai w,iI ps.length,iI (ix T ps 0),iI (ix T ps 1),iI (ix T ps 2),iI 0]:=by
 have h:∀q,(if q<ps.length then ix T ps q else 0)=ix T ps q:=by intro q;split;rfl;unfold ix;rw[iQ aA]
 unfold rf;rw[h 0,h 1,h 2]
theorem jv1{w:ax}{q:Nat}(a:q<6):∃u,(rf w T ps j)[q]?=some u:=⟨_,Ls (by simpa[rf]using a)⟩
structure Hm(w:World)(sb nb tb:Nat)(nv:Value)(xs:PX)(T:List Nd)(k v:Int)(word:ByteArray)(pv:Value)(ps:List Nd)(j:Nat)(wr:World):Prop where
 ext:q9 (TF sb xs) w wr
 vb:wr.heap[nb]?=some (.cells #[iI k,.string word,iI v,pv] 115)
 Xd:wr.heap[tb]?=some (.cells (rf word (bM T ps) ps j) 145)
 ts:∃ bh gW,TS wr sb nv { xs with ts:=bh,tm:=gW } (bM T (ps.take j))/\(∀ q,TF sb { xs with ts:=bh,tm:=gW } q->TF sb xs q\/w.heap.size+2<=q)
theorem jL7(T:List Nd)(v:Int):(cX T (.mk 4 ay v [])).val=.agg #[ag,iI 0,iI 0,iI 0,iI 0,iI v]:=by rw[cX,aJ rfl];rfl
theorem jL8(T:List Nd)(w:ax)(v:Int)(ps:List Nd):(cX T (.mk 3 w v ps)).val=.agg #[ai w,iI ps.length,iI (ix T ps 0),iI (ix T ps 1),iI (ix T ps 2),iI 0]:=by rw[cX,aF aE];rfl
theorem ep.lX{e:Ending}(c:eX w W)(h:ep W sb nv xs T' i e w'):ep w sb nv xs T' i e w':=by obtain⟨j,a,b,f,l,g⟩:=h;exact⟨j,a,b,f,(c.M).trans l,λk d=>(g k d).imp id (λe=>cM c.size e)⟩
theorem jv2{v:Int}{wd:ax}{j:Option Addr}{g i:Nat}(h:TS w sb nv xs T)(l:-1000<=v)(k:v<=1000)(o:T.length<=10000000):cP 148 #[.pointer (some (aD sb 1)),.agg #[iI 4,ai wd,iI v,.slice j g i]] w (ep w sb nv xs (dL T (.mk 4 ay v [])) (idx (dL T (.mk 4 ay v [])) (.mk 4 ay v []))):=by have H:=q8 h;have m:=j9 h.aL;have a:Hid (eX w (w.alloc (.cells #[iI 4,ai wd,iI v,.slice j g i] 115)).drew):=((rr w).alloc _).drew;clear h;delta cP;go_in;go_wp2;have e:=Xb (H.ext a (λ_ _ f=>f)) (.num l k) (λ_ c=>absurd c jm) o;rw[jL7]at e;have n:=q8 e;clear e;go_region_law (go_simp;go_wp2_with(go_at_call 188;refine n.mono ?_;rintro _ _ c;have d:=c.lX a;obtain⟨rfl,b⟩:=d;have p:=q8 b;clear c b));all_goals go_wp2;go_ret;exact⟨rfl,p⟩
structure CK where
 nm:ByteArray
 ar:Int
 a0:Int
 a1:Int
 a2:Int
def CK.cells(k:CK):ak:=[.string k.nm,iI k.ar,iI k.a0,iI k.a1,iI k.a2]
def CK.val(k:CK):au:=.agg #[.string k.nm,iI k.ar,iI k.a0,iI k.a1,iI k.a2]
structure CK.Ok(k:CK):Prop where
 nm:k.nm.size<=1000
 ar:Sm k.ar
 a0:Sm k.a0
 a1:Sm k.a1
 a2:Sm k.a2
theorem Xe:prog.cellsOf 147=5:=aG
theorem jR7(d:Nat){k:CK}(h:k.Ok):∃ls,prog.keyLits (d+3) 147 k.cells=some ls:=by unfold Program.keyLits;simp[CK.cells,underlying147,Xe,Ny,Nz,WK d h.nm h.ar,WL d h.a0 h.a1 h.a2]
theorem Za0{k:CK}(h:k.Ok):∃l,keyOf prog 147 k.val=some l:=by
 obtain⟨d,hd⟩:=NA;obtain⟨ls,hl⟩:=jR7 d h;refine⟨.string (keyBytes ls),?_⟩;have hc:k.val.cells.toList=k.cells:=rfl;have NB:prog.keyType 147=true:=aG;have hf:k.val.formed prog 147=true:=by simp[CK.val,Value.formed,underlying147,Xe]
 unfold keyOf;rw[underlying147];exact ZbH
theorem NO:Keyed prog 147:=Keyed.of_law (deep_law_laid aG (m:=4) aA (qA aG) aG aG)
noncomputable def je(k:CK):Lit:=(keyOf prog 147 k.val).getD (.bool false)
theorem NP{k:CK}(h:k.Ok):keyOf prog 147 k.val=some (je k):=by obtain⟨_,a⟩:=Za0 h;rw[je,a];rfl
theorem Xf{x y:CK}(c:x.Ok)(b:y.Ok)(h:je x=je y):x=y:=by have a:=NP b;rw[<-h]at a;have e:=NO.inj (NP c) a;cases x;cases y;simp[CK.val]at e;simp[e]
def sO(x:Z7)(u:Nat->Int)(j:Nat):CK:=⟨x.nm,x.ar,if 0<j then u x.a0.toNat else 0,if 1<j then u x.a1.toNat else 0,if 2<j then u x.a2.toNat else 0⟩
def fL(x:Z7)(u:Nat->Int):CK:=sO x u x.ar.toNat
structure ve(TK:List Z7)(u:Nat->Int)(j:Nat)(D:DataW Unit):Prop where
 yes:∀ (i:Nat) (x:Z7),i<j->TK[i]?=some x->¬x.nm=⟨#[]⟩->(∀ z,D.atKey (je (fL x u)) z=.lit (.int .i64 (u i)))/\Maps.has D (je (fL x u))=true
 no:∀ k:CK,k.Ok->(∀ (i:Nat) (x:Z7),i<j->TK[i]?=some x->¬x.nm=⟨#[]⟩->¬fL x u=k)->Maps.has D (je k)=false
structure NQ(TK:List Z7)(u:Nat->Int):Prop where
 ok:∀ x∈TK,(fL x u).Ok
 same:∀ (i j:Nat) (x y:Z7),TK[i]?=some x->TK[j]?=some y->¬x.nm=⟨#[]⟩->¬y.nm=⟨#[]⟩->fL x u=fL y u->u i=u j
 ar:∀ x∈TK,0<=x.ar/\x.ar<=3
 a0:∀ x∈TK,0<x.ar->0<=x.a0/\x.a0<TK.length
 a1:∀ x∈TK,1<x.ar->0<=x.a1/\x.a1<TK.length
 a2:∀ x∈TK,2<x.ar->0<=x.a2/\x.a2<TK.length
 sm:∀ i,i<TK.length->Sm (u i)
section
variable{TK:List Z7}{u:Nat->Int}
theorem jR8:ve TK u 0 (.map []):=⟨λi _ h=>absurd h (Nat.not_lt_zero i),λ_ _ _=>rfl⟩
theorem ve.skip{x:Z7}(h:ve TK u j D)(g:TK[j]?=some x)(l:x.nm=⟨#[]⟩):ve TK u (j+1) D:=by
 refine⟨λi y f c a=>?_,λk d b=>h.no k d (λi y f=>b i y aA)⟩;by_cases e:i=j;subst e;rw[g]at c;obtain rfl:x=y:=by simpa using c
 exact absurd l a;exact h.yes i y aA c a
theorem ve.put{x:Z7}(h:ve TK u j D)(hD:Maps.Tidy D)(n:NQ TK u)(m:TK[j]?=some x)(t:¬x.nm=⟨#[]⟩)(hk:WideAt.IsKeyLit (je (fL x u))):ve TK u (j+1) (D.put (je (fL x u)) (.lit (.int .i64 (u j)))):=by
 have l:=n.ok x (bg m);refine⟨λi y A g f=>?_,λk c b=>?_⟩;by_cases e:fL y u=fL x u;have w:=n.same i j y x g m f t e;rw[e,w];generalize je (fL x u)=q at hk⊢;exact Zh6;have v:¬i=j:=by intro d;subst d;rw[m]at g;obtain rfl:x=y:=by{simpa using g};exact e rfl
 have a:je (fL y u)≠je (fL x u):=λd=>e (Xf (n.ok y (bg g)) l d);obtain⟨r,o⟩:=h.yes i y aA g f;generalize je (fL y u)=p at r o a⊢;generalize je (fL x u)=q at a⊢;exact⟨λz=>by rw[atKey_put_other a];exact r z,by rw[has_put_other a];exact o⟩;have a:je k≠je (fL x u):=λd=>b j x aA m t (Xf c l d).symm;have s:=h.no k c (λi y A=>b i y aA);generalize je k=p at a s⊢;generalize je (fL x u)=q at a⊢;rw[has_put_other a];exact s
end
end Go.Proofs.YtegbdaffhpiacaaGreatDoor
