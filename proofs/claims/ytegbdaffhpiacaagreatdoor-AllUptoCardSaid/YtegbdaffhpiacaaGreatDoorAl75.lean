/- Part. -/
import Derived.Test.YtegbdaffhpiacaaGreatDoorAl24
import Derived.Test.YtegbdaffhpiacaaGreatDoorAl32
import Derived.Test.YtegbdaffhpiacaaGreatDoorAl47
set_option maxRecDepth 100000
set_option maxHeartbeats 1000000
open Go.Obj renaming cells->aG
open Option renaming none->aR,some->aQ
namespace Go.Proofs.YtegbdaffhpiacaaGreatDoor
open Go.RowKit Ar
section
open Go.Proofs.Tryz
structure nF(w:World):Prop where
 hd:gT w
 vS:mh w
 pat:y9 w
theorem nF.ext{w w':ao}(h:nF w)(x:eX w w'):nF w':=⟨h.hd.ext x id,h.vS.ext x id,h.pat.ext x id⟩
structure Bx(rE:Int)(ek:Nat)(G:Nat->Nat->World->(Nat->Prop)->Prop)(B:Nat->Nat->World->(Nat->Prop)->Prop):Prop where
 ext:∀ ps rs,mX (G ps rs)
 lt:∀ ps rs,qX (G ps rs)
 ZaN:∀ m bb,mX (B m bb)
 ltB:∀ m bb,qX (B m bb)
 begin:∀ w,nF w->cP 32 #[] w fun e w'=>∃ ps rs F,e=.returned (.tuple #[.agg #[pT ps,pT rs],.bool true])/\eX w w'/\G ps rs w' F/\∀ k,F k->w.heap.size<=k
 book:∀ (bb:Nat) (w:World),w.heap[bb]?=aQ (aG #[ae,ae,iI 0] 64)->B 0 bb w (fun k=>k=bb)
 looks:∀ (m bb:Nat) (w:World) (F:Nat->Prop),m<=ek->B m bb w F->cP 35 #[pT bb] w fun e w'=>e=.returned (.bool true)/\eX w w'
 step:∀ (m:Nat) (w:World) (ps rs bb:Nat) (F FB:Nat->Prop) (k on:Int) (s:ByteArray) (a:Int),m<ek->G ps rs w F->B m bb w FB->(∀ k,F k->¬FB k)->nF w->k<=rE->s.size<=maxLen ->
  cP 34 #[.agg #[pT ps,pT rs],.agg #[iI k,iI on,.string s,iI a],pT bb] w (PP w F FB (G ps rs) (B (m+1) bb))
structure wY(W:World)(G:Nat->Nat->World->(Nat->Prop)->Prop)(B:World->(Nat->Prop)->Prop)(lb p1 r1 p2 r2:Nat)(F1 F2 FB:Nat->Prop)(w:World):Prop where
 ext:eX W w
 wZ:w.heap[lb]?=aQ (aG #[pT p1,pT r1,pT p2,pT r2] 57)
 g1:G p1 r1 w F1
 g2:G p2 r2 w F2
 b:B w FB
 d12:∀ k,F1 k->¬F2 k
 d1:∀ k,F1 k->¬FB k
 d2:∀ k,F2 k->¬FB k
 f:∀ k,F1 k\/F2 k\/FB k->W.heap.size<=k/\¬k=lb
def By(W:ao)(G:Nat->Nat->ao->aj->Prop)(B:ao->aj->Prop)(lb p1 r1 p2 r2:Nat)(w:ao):Prop:=∃ F1 F2 FB,wY W G B lb p1 r1 p2 r2 F1 F2 FB w
section
variable{rE:Int}{ek m m':Nat}{G:Nat->Nat->ao->aj->Prop}{B:Nat->Nat->ao->aj->Prop}{W w w':ao}{lb bb p1 r1 p2 r2:Nat}{F1 F2 FB:aj}
theorem wY.quiet(a:Bx rE ek G B)(h:wY W G (B m bb) lb p1 r1 p2 r2 F1 F2 FB w)(x:eX w w'):wY W G (B m bb) lb p1 r1 p2 r2 F1 F2 FB w':=⟨h.ext.z x,x.K h.wZ,a.ext _ _ _ _ _ _ h.g1 x (λ_ _ f=>f),a.ext _ _ _ _ _ _ h.g2 x (λ_ _ f=>f),a.ZaN _ _ _ _ _ _ h.b x (λ_ _ f=>f),h.d12,h.d1,h.d2,h.f⟩
theorem wY.one(j:Bx rE ek G B)(h:wY W G (B m bb) lb p1 r1 p2 r2 F1 F2 FB w)(p:Ax w F1 FB (G p1 r1) (B m' bb) w'):By W G (B m' bb) lb p1 r1 p2 r2 w':=by
 obtain⟨f,b,c,o,n,q,g⟩:=p;have s:=h.ext.size;have r:=j9 h.wZ;have l:∀k,b k\/c k->¬F2 k:=by intro k a d;rcases g k a with(e|e)|e;exact h.d12 k e d;exact h.d2 k d e;have:=j.lt _ _ _ _ h.g2 k d;omega
 refine⟨b,F2,c,h.ext.z' f (λi _ e=>by have:=(h.f i (e.imp id .inr)).1;omega),(f.block _ r (λe=>(h.f lb (e.imp id .inr)).2 rfl)).z h.wZ,o,j.ext _ _ _ _ _ _ h.g2 f (λk a e=>e.elim (λe=>h.d12 k e a) (h.d2 k a)),n,λk a=>l k (.inl a),q,λk a e=>l k (.inr e) a,λk a=>?_⟩;have hb:(b k\/c k)\/F2 k:=by rcases a with e|e|e;exact rJ;exact .inr e;exact .inl (.inr e)
 rcases hb with hb|hb;rcases g k hb with e|e;exact h.f k (e.imp id .inr);exact rL;exact h.f k (.inr (.inl hb))
theorem wY.swap(h:wY W G (B m bb) lb p1 r1 p2 r2 F1 F2 FB w)(j:Bx rE ek G B)(p:Ax w F2 FB (G p2 r2) (B m' bb) w'):By W G (B m' bb) lb p1 r1 p2 r2 w':=by
 obtain⟨f,b,c,o,n,q,g⟩:=p;have s:=h.ext.size;have r:=j9 h.wZ;have l:∀k,b k\/c k->¬F1 k:=by intro k a d;rcases g k a with(e|e)|e;exact h.d12 k d e;exact h.d1 k d e;have:=j.lt _ _ _ _ h.g1 k d;omega
 refine⟨F1,b,c,h.ext.z' f (λi _ e=>by have:=(h.f i (.inr e)).1;omega),(f.block _ r (λe=>(h.f lb (.inr e)).2 rfl)).z h.wZ,j.ext _ _ _ _ _ _ h.g1 f (λk a e=>e.elim (h.d12 k a) (h.d1 k a)),o,n,λk a e=>l k (.inl e) a,λk a e=>l k (.inr e) a,q,λk a=>?_⟩;rcases a with e|a;exact h.f k (.inl e);rcases g k a with e|e;exact h.f k (.inr e);exact rL
theorem qL6(i:Bx rE ek G B){l p a:ao}(h:eX W l)(v:G p1 r1 l F1)(A:∀k,F1 k->W.heap.size<=k)(d:eX l p)(c:eX p a)(u:G p2 r2 a F2)(x:∀k,F2 k->p.heap.size<=k):By W G (B 0 (a.heap.size+1+1)) (a.heap.size+1) p1 r1 p2 r2 (((a.alloc (aG #[pT p2,pT r2] 57)).alloc (aG #[pT p1,pT r1,pT p2,pT r2] 57)).alloc (aG #[ae,ae,iI 0] 64)):=by obtain⟨r,s⟩:∃o:Obj,aG #[pT p2,pT r2] 57=o:=⟨_,rfl⟩;obtain⟨q,j⟩:∃o:Obj,aG #[pT p1,pT r1,pT p2,pT r2] 57=o:=⟨_,rfl⟩;obtain⟨w,g⟩:∃o:Obj,aG #[ae,ae,iI 0] 64=o:=⟨_,rfl⟩;rw[s,j,g];have b:eX a (((a.alloc r).alloc q).alloc w):=(((rr a).alloc _).alloc _).alloc _;have s1:=h.size;have s2:=d.size;have s3:=c.size;have t:=i.lt _ _ _ _ v;have y:=i.lt _ _ _ _ u;refine⟨F1,F2,λk=>k=a.heap.size+1+1,((h.z d).z c).z b,?_,i.ext _ _ _ _ _ _ v ((d.z c).z b) (λ_ _ f=>f),i.ext _ _ _ _ _ _ u b (λ_ _ f=>f),i.book _ _ ?_,λk n m=>?_,λk n e=>?_,λk m e=>?_,λk z=>?_⟩;rw[j,cU _ _ bK];have e:=bR (a.alloc r) q;exact mK;rw[g];have e:=bR ((a.alloc r).alloc q) w;exact mK;have:=t k n;have:=x k m;omega;have:=t k n;omega;have:=y k m;omega;rcases z with e|e|e;have:=t k e;have:=A k e;exact rL;have:=y k e;have:=x k e;exact rL;exact rL
theorem jW1(hG:Bx rE ek G B)(hm:7<=rE)(W:ao)(sa:Option Addr)(n cap:Nat)(hn:n<=maxLen)(Zpa:n+2<=ek)(hS:OS W sa n)(hL:nF W):cP 12 #[.slice sa n cap,iI rE] W λe w'=>e=.returned (ah)/\eX W w':=by
 obtain⟨HL,HS,h⟩:=bV hL hS hG;clear hL hS hG;delta cP;go_in;go_wp2_with fail;refine(h.begin W HL).I ?_;rintro e w1 ⟨p1,r1,_,rfl,Y,O,P⟩;obtain⟨D,HP1,M⟩:=bV Y O P;clear Y O P;go_wp2_with fail;obtain⟨I,v⟩:∃I,w1.alloc (aG #[pT p1,pT r1] 57)=I:=⟨_,rfl⟩;have E:Hid (eX w1 I):=by rw[<-v];exact Cr
 have J:Hid (I.heap[w1.heap.size]?=ad #[pT p1,pT r1] 57):=by rw[<-v];exact xC
 rw[v];clear v;refine(h.begin I (HL.ext (D.z E))).I ?_;rintro e w2 ⟨p2,r2,_,rfl,A,Z,EC⟩;have k1:=A.K J;obtain⟨c10,c11⟩:=db k1 0 1;have C:=j9 k1;obtain⟨X,L,AY⟩:=bV A Z EC;clear A Z EC k1;go_wp2_with fail;have u:=qL6 h D HP1 M E X L AY;have d:=q8 u;clear u c10 c11 C D HP1 M E X L AY J;obtain⟨lb,F⟩:∃lb,w2.heap.size+1=lb:=⟨_,rfl⟩;rw[F]at d;simp only[F];clear F;go_loopw [11](λi wr=>∃k m:Nat,k<=n/\m<=k/\i=iI k/\By W G (B m (lb+1)) lb p1 r1 p2 r2 wr)(λi _=>n-(intOf i).toNat);case atStart=>exact⟨0,0,cf _,cf _,rfl,d⟩
 case round=>clear d;obtain⟨k,m,_,_,rfl,F1,F2,FB,u⟩:=hrel;obtain⟨d,t⟩:=bM u (HL.ext u.ext);clear u;have hmx:n<=9223372036854775807:=by{unfold maxLen at hn;omega};by_cases C:k<n;{obtain⟨b,x,kd,H,s,a,rfl,hb,hs,Q,N,c0,c1,c2,c3⟩:=HS k C;have K:=d.o.ext;rw[<-K.cell (p:=⟨b,x+k*4,aR⟩) hb id]at c0;rw[<-K.cell (p:=⟨b,x+k*4+1,aR⟩) hb id]at c1;rw[<-K.cell (p:=⟨b,x+k*4+2,aR⟩) hb id]at c2;rw[<-K.cell (p:=⟨b,x+k*4+3,aR⟩) hb id]at c3;have U:Hid (-9223372036854775808<=H/\H<=9223372036854775807):=⟨Q,N⟩;have S:=q8 hs;clear K Q N hs;by_cases Zpb:rE<kd;{go_wp2_with fail;exact⟨⟨k+1,m,bH,bH,bW,F1,F2,FB,d⟩,ch⟩};have l0:=z7 d.wZ 0;obtain⟨l1,l2,l3⟩:=dT d.wZ 1 2 3;have HK:Hid (kd<=rE):=by{show _<=_;omega};obtain⟨j,y,r⟩:=bV (d.quiet h ((eR wr).drew)) (t.ext ((eR wr).drew)) (λw=>jG7 H w U.1 U.2);rcases qV2 H with hp|hp;{rw[hp]at r;clear hp;go_wp2_with fail;go_region_law (go_simp;go_wp2_with(first|(go_at_call 33;refine(r _).I ?_;rintro e w' ⟨rfl,rfl⟩)|(go_at_call 34;refine(h.step m _ p1 r1 (lb+1) F1 FB kd H s a bH j.g1 j.b d.d1 y HK S).I ?_;rintro e w' ⟨rfl,c⟩)));all_goals obtain⟨o,l,f,z⟩:=j.one h c;have R:=q8 z;clear c z l0 l1 l2 l3 c0 c1 c2 c3 d j y r;go_wp2_with(go_at_call 35;refine(h.looks (m+1) (lb+1) _ f bH R.b).I ?_;rintro e T ⟨rfl,g⟩);exact⟨⟨k+1,m+1,bH,bH,bW,o,l,f,R.quiet h g⟩,ch⟩};rw[hp]at r;clear hp;go_wp2_with fail;go_region_law (go_simp;go_wp2_with(first|(go_at_call 33;refine(r _).I ?_;rintro e w' ⟨rfl,rfl⟩)|(go_at_call 34;refine(h.step m _ p2 r2 (lb+1) F2 FB kd H s a bH j.g2 j.b d.d2 y HK S).I ?_;rintro e w' ⟨rfl,c⟩)));all_goals obtain⟨o,l,f,z⟩:=j.swap h c;have R:=q8 z;clear c z l0 l1 l2 l3 c0 c1 c2 c3 d j y r;go_wp2_with(go_at_call 35;refine(h.looks (m+1) (lb+1) _ f bH R.b).I ?_;rintro e T ⟨rfl,g⟩);exact⟨⟨k+1,m+1,bH,bH,bW,o,l,f,R.quiet h g⟩,ch⟩};go_wp2_with fail;have V:Hid (By W G (B m (lb+1)) lb p1 r1 p2 r2 wr):=⟨F1,F2,FB,d⟩;clear d t;go_loopw [6,14](λva i wr=>∃q:Nat,q<=2/\va=ah/\i=iI q/\By W G (B (m+q) (lb+1)) lb p1 r1 p2 r2 wr)(λ_ i _=>2-(intOf i).toNat);(case atStart=>exact⟨0,cf _,rfl,rfl,V⟩);case round=>clear V;obtain⟨q,_,rfl,rfl,F1,F2,FB,u⟩:=hrel;obtain⟨l0,l1,l2,l3⟩:=dR u.wZ 0 1 2 3;obtain⟨d,t⟩:=bM u (HL.ext u.ext);clear u;obtain rfl|rfl|rfl:q=0\/q=1\/q=2:=bH;{go_wp2_with(go_at_call 34;refine(h.step (m+0) _ p1 r1 (lb+1) F1 FB 7 0 _ 0 bH d.g1 d.b d.d1 t hm bJ).I ?_;rintro e w' ⟨rfl,c⟩);obtain⟨o,l,f,z⟩:=d.one h c;exact⟨⟨1,bH,rfl,rfl,o,l,f,z⟩,lP⟩};{go_wp2_with(go_at_call 34;refine(h.step (m+1) _ p2 r2 (lb+1) F2 FB 7 0 _ 0 bH d.g2 d.b d.d2 t hm bJ).I ?_;rintro e w' ⟨rfl,c⟩);obtain⟨o,l,f,z⟩:=d.swap h c;exact⟨⟨2,bH,rfl,rfl,o,l,f,z⟩,lP⟩};clear l0 l1 l2 l3;go_wp2_with(go_at_call 35;refine(h.looks (m+2) (lb+1) _ FB bH d.b).I ?_;rintro e T ⟨rfl,g⟩);go_ret;exact⟨rfl,d.ext.z g⟩
end
end
section
open Go.Proofs.Tryz
open Go.ChangeShapes Go.Deep Go.Joins
variable{W:ao}
theorem Zf7 : Tryz.prog.globalNamed "internal/strconv.uint64pow10" = aQ 2 := by kernel_rfl
theorem Zf8:(prog.globals[2]?).map (·.type)=aQ 362:=bS
theorem Zf9:prog.cellsOf 195=1:=bS
theorem Ze5:prog.cellsOf 362=20:=bS
theorem cOp:prog.cellsOf 66=4:=bS
theorem jS4(h:laidMet prog Rows.readsRow.laid W):gT W/\mh W:=by obtain⟨_,⟨_,_,_,_,_,_,_,_,_,_,⟨_,_,_,_,_,_,_,_,_,_,⟨_,_,b,m,k,_,f,i,c,bM,⟨_,_,cs3,_,_,_,d,j,g,bV,_,_⟩,_⟩,_⟩,_⟩,_,_⟩:=h;obtain rfl:=eI (jG8.symm.z d);obtain rfl:=eI (Za9.symm.z j);obtain rfl:=eI (Zf7.symm.z f);obtain rfl:=eI (Zf8.symm.z i);constructor;obtain⟨t,fr,hb⟩:=qq9 jG8 g;have e:=jG9 bV;have l:cs3=xV:=Array.ext' e;subst l;exact⟨t,fr,hb⟩;show W.var? _ _=_;rw[c];have a:DataW.trod _ prog W _ _ _ m 362 b.toList=aQ (Lib.tabData .u64 Lib.pow10Tab,k):=bM;rw[<-Lib.cells_of_tab underlying362 underlying195 Zf9 Ze5 a]
theorem Ze6{H:Type}{enc:TypeId×au->H}{m i:Nat}{a:Addr}{cs:ak}{y:DataW H×List MemPlace}{f:Nat->Bool}{j:Bool}(r:W.cells? 0 (a.add (i*4)) 4=aQ cs)(h:DataW.trod enc prog W 0 f j m 66 cs=aQ y)(n:a.spot=aR):∃(k g:Int)(s:ax)(c:Int),s.size<=maxLen/\ -9223372036854775808<=g/\g<=9223372036854775807/\W.cell? ⟨a.block,a.off+i*4,aR⟩=aQ (iI k)/\W.cell? ⟨a.block,a.off+i*4+1,aR⟩=aQ (iI g)/\W.cell? ⟨a.block,a.off+i*4+2,aR⟩=aQ (ai s)/\W.cell? ⟨a.block,a.off+i*4+3,aR⟩=aQ (iI c):=by
 obtain⟨k,g,s,c,rfl,q,p,o⟩:=Ze3 underlying66 bS cOp rfl rfl rfl rfl qJ underlying9 h;obtain⟨_,_,d⟩:=World.cells?_some r;obtain⟨b,l,_⟩:=a;simp only at n;subst n;have e:(Addr.mk b l aR).add (i*4)=⟨b,l+i*4,aR⟩:=by unfold Addr.add;split;simp_all;rfl
 rw[e]at d;exact⟨k,g,s,c,q,p,o,d 0 bJ,d 1 bJ,d 2 bJ,d 3 bJ⟩
end
section
open Go.Proofs.Tryz Go.ChangeShapes Go.Deep
section
open Go.Joins
theorem Zc3 : Tryz.prog.globalNamed "arbiter/worlds.patterns" = aQ 1 := by kernel_rfl
theorem Zf0:(prog.globals[1]?).map (·.type)=aQ 336:=bS
theorem Zf1:prog.cellsOf 195=1:=bS
theorem Zf2:prog.cellsOf 336=6:=bS
def jv9:aV:=[0xAAAAAAAAAAAAAAAA,0xCCCCCCCCCCCCCCCC,0xF0F0F0F0F0F0F0F0,0xFF00FF00FF00FF00,0xFFFF0000FFFF0000,0xFFFFFFFF00000000]
theorem qO7:((begin prog (λ_ _=>0) default).world.heap[1]?).bind Obj.row?=aQ (Array.replicate 6 (iV 0),336):=bS
end
section
open Go.WideShapes Go.ChangeAt Go.WideMaps Go.WideElems
theorem own:ownKnob prog.godebug=aR:=bS
theorem q9.Zgq{w w':ao}(h:eX w w'):Below w.heap.size w w':=⟨h.os,h.tape,h.output,h.size,λk a=>h.block k a id⟩
end
end
section
open Go.Proofs.Tryz
open Go.ChangeShapes Go.WideShapes Go.ChangeAt Go.WideMaps Go.WideElems Go.Deep
variable{W:ao}
theorem jd6{H:Type}{enc:TypeId×au->H}{v:au}{d:DataW H}{p:List MemPlace}(y:∃a l c,v=.slice a l c)(h:DataW.Trod enc prog W 0 (λ_=>true) true 22 v d p):∃(f:Option Addr)(n cap:Nat),v=.slice f n cap/\n<=maxLen/\OS W f n:=by obtain⟨f,n,cap,rfl⟩:=y;obtain⟨x,j⟩:=jp1 underlying22 cOp h;refine⟨f,n,cap,rfl,x,λi w=>?_⟩;obtain⟨a,_,_,_,rfl,e,g,z,q⟩:=j i w;obtain⟨k,r,s,c,t,o,u,c0,c1,c2,c3⟩:=Ze6 z q e;obtain⟨b,m,_⟩:=a;simp only at e;subst e;exact⟨b,m,k,r,s,c,rfl,g,t,o,u,c0,c1,c2,c3⟩
theorem jr5(m:W.ShapedOpen prog)(h:laidMet prog Rows.decidesRow.laid W):nF W:=by obtain⟨k,a⟩:=jS4 h;obtain⟨_,⟨_,_,_,_,_,_,_,_,_,_,⟨_,_,_,_,_,_,_,_,_,_,⟨_,_,_,_,_,_,_,_,_,_,⟨_,_,_,_,_,_,_,_,_,_,⟨_,_,c,n,l,_,f,i,d,cK,_,_⟩,_⟩,_⟩,_⟩,_⟩,_,_⟩:=h;obtain rfl:=eI (Zc3.symm.z f);obtain rfl:=eI (Zf0.symm.z i);refine⟨k,a,?_⟩;obtain⟨_,_,hb⟩:=qq9 Zc3 d;have b:DataW.trod _ prog W _ _ _ n 336 c.toList=aQ (Lib.tabData .u64 jv9,l):=cK;have j:=Lib.cells_of_tab underlying336 underlying195 Zf1 Zf2 b;obtain⟨_,g,_⟩:=m.1 1 _ _ (pN bS) qO7;rw[hb]at g;simp only[xF,Obj.cells.injEq]at g;obtain⟨rfl,rfl,rfl⟩:=g;have e:c=(jv9.map (λz=>iV z)).toArray:=Array.ext' (by rw[j]);subst e;exact hb
end
end Go.Proofs.YtegbdaffhpiacaaGreatDoor
