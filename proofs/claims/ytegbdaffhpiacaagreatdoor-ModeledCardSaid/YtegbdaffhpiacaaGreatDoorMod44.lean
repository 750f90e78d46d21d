/- A part of the proof. -/
import Derived.Test.YtegbdaffhpiacaaGreatDoorMod42
import Derived.Test.YtegbdaffhpiacaaGreatDoorMod43
import Derived.Deep.AppendLies
set_option maxRecDepth 100000
set_option maxHeartbeats 2000000
namespace Go.Proofs.YtegbdaffhpiacaaGreatDoor
open Go.Proofs.Tryz hiding parts
open Go.RowKit Go.Maps Ar
section
variable{N:List Nm}
theorem qs6{nd:Nd}(h:RT N 0 nd):∃ us,zd5 N (j9 nd)=.ok nd us:=by
 have hw:=zK0 h.tx;obtain⟨ts,t2,e,h1,h2⟩:=Is.app hw;obtain⟨z,t3,rfl,hz,h3⟩:=h2.cons;have h3:=h3.nil;subst h3;have hl:(zg0 nd).length<=(toks (j9 nd)).length:=by have:=congrArg List.length hw;simp at this;omega
 have hr:=zm6 h (toks (j9 nd)).length ts [z] hl h1;unfold zd5;have e0:((0:Nat):Int)=0:=rfl;rw[e0] at hr;rw[e] at hr ⊢;rw[hr];simp only;rw[if_pos hz];exact⟨_,rfl⟩
theorem Ar.RT.ok(hN:zA8 N){d:Nat}{nd:Nd}(h:RT N d nd):Y5 nd:=by
 induction h with
 | name h ha=>exact .app h (by simp) (fun p hp=>by cases hp)
 | num h1 h2=>exact .num h1 h2
 | app h hne ha hd hp ih=>exact .app h (by have:=qk2 hN ha;omega) ih
def qS9(w:World)(sb:Nat)(N:List Nm)(I:Itp):Prop:=∀ (W:World) (s:ByteArray) (nd:Nd),q9 (fun _=>False) w W->s.toList=j9 nd->s.size<=600->RT N 0 nd ->
 Calls prog 77 #[.pointer (some ⟨sb,0,none⟩),.string s] W fun e W'=>e=.returned (.tuple #[.int .i64 (Y1 I nd),.int .i64 0,.int .i64 0])/\q9 (fun _=>False) W W'
theorem qS9.ext{w w':World}{sb:Nat}{I:Itp}(h:qS9 w sb N I)(hx:q9 (fun _=>False) w w'):qS9 w' sb N I:=fun W s nd hW=>h W s nd (hx.trans hW)
theorem qT0{W:World}{sb mb:Nat}{nv:Value}{xs:PX}{T A:List Nd}{u:Nat->Int}(hps:PS W sb N nv xs)(hvd:xs.vd=.int .i64 1)(hml:xs.ml=.map (some mb))(hm:MdW W mb T.length (keys T) u T.length)(h:O3 T A)(hT:T.length<=12)(hV:(zi3 (keys T) (pas T A)).V u)(hhd:U4 W)
  {s:ByteArray} {nd:Nd} (hs:s.toList=j9 nd) (hsz:s.size<=600) (hr:RT N 0 nd):
  Calls prog 77 #[.pointer (some ⟨sb,0,none⟩),.string s] W fun e W'=>e=.returned (.tuple #[.int .i64 (Y1 (itpU T u) nd),.int .i64 0,.int .i64 0])/\q9 (fun _=>False) W W':=by
 have kb:=hps.blk;rw[hvd,hml] at kb;have c7:=z6 kb 7;have c8:=z6 kb 8;have hsb:=z8 kb;have HC:=q8 (jm0 s W hsz hps.tab hhd);obtain⟨us,hus⟩:=qs6 hr;rw[<- hs] at hus;have HV:Hid (je2 T u mb nd):=qH7 h hT hV (hr.ok hps.ok);have HUS:=q8 hus;have HM:=q8 hm;have KB:=q8 kb;clear hps hvd hml hm h hT hV hhd hr hus kb;go_enter func77,ntmps77;go_wp2_with fail;refine HC.out.mono ?_;rintro en w1 ⟨hx1,hp⟩;rw[HUS.out] at hp;obtain⟨k,wd,v,sa,sn,sc,rfl,hpn⟩:=hp;have HX1:=q8 hx1;have HPN:=q8 hpn;have k1:=(hx1.block _ hsb (fun f=>f)).trans KB.out;have d7:=z6 k1 7;have d8:=z6 k1 8;clear hx1 hpn HC c7 c8;go_wp2_with fail;obtain⟨V,hVe⟩:∃ V,w1.alloc (.cells #[.int .i64 k,.string wd,.int .i64 v,.slice sa sn sc] 115)=V:=⟨_,rfl⟩;have hxV:q9 (fun _=>False) w1 V:=by rw[<- hVe];exact(q9.refl _ w1).alloc _
 have kV:V.heap[w1.heap.size]?=some (.cells #[.int .i64 k,.string wd,.int .i64 v,.slice sa sn sc] 115):=by rw[<- hVe];exact heap_alloc_new w1 _
 rw[hVe];have e8:=z6 ((hxV.block _ (z8 k1) (fun f=>f)).trans k1) 8;have n0:=z6 kV 0;have n1:=z6 kV 1;have n2:=z6 kV 2;have n3:=z6 kV 3;have HXV:Hid (q9 (fun _=>False) W V):=HX1.out.trans hxV;obtain⟨Dm,m1,m2,m3⟩:=HM.out;have HC2:=q8 (HV.out V.drew (fun x=>W.heap.size<=x) k wd v sa sn sc (HPN.out.ext hxV.drew (fun _ _ _ f=>f)) ⟨Dm,Z6 m1 HXV.out.drew (fun f=>f),m2,m3⟩);clear hVe hxV kV k1 d7 d8 m1 m2 m3
 go_region_law (go_simp;go_wp2_with (go_at_call 115;refine HC2.out.mono ?_;rintro e w2 ⟨rfl,hx2⟩;have HX2:=q8 hx2;clear hx2))
 all_goals
  go_wp2_with fail;refine bodyPost_ret (v:=.tuple #[.int .i64 (Y1 (itpU T u) nd),.int .i64 0,.int .i64 0]) (by simp[results,results77,go_sem]) rfl ?_;exact⟨rfl,HXV.out.drew.trans HX2.out⟩
def Fnd(w:World)(sb:Nat)(N:List Nm)(L:List (Nd × Int))(r:Bool):Prop :=
 ∃ T A K nv xs D Y,PL w sb N L T A K nv xs D Y/\(r=true->xs.vd=.int .i64 1/\∃ mb u,xs.ml=.map (some mb)/\Fits T A (L.map Prod.fst) u/\MdW w mb T.length (keys T) u T.length)/\(r=false->xs.vd=.int .i64 2)
theorem qH8{w:World}{sb:Nat}{L:List (Nd × Int)}{d:Nat}{F:Nat->Prop}(h:Ses w sb N L d F)(hp:K9 w):
  Calls prog 17 #[.pointer (some ⟨sb,0,none⟩)] w fun e w'=>∃ r,e=.returned (.bool r)/\(r=true↔Sat (L.map Prod.fst))/\zM7 w F sb N L d w'/\Fnd w' sb N L r:=by
 obtain⟨T,A,K,nv,xs,D,Y,hP,rfl,rfl⟩:=h;refine(zV2 hP hp).mono ?_;rintro e w' ⟨r,vd,ml,rfl,hr,hx,kb,ht,hf⟩;have hS:ze4 w sb nv xs N T A Y K w':=⟨hx.mono (fun _ _ e=>.inl (.inl (.inl e))),nv,{ xs with vd:=.int .i64 vd,ml:=ml },hP.ss.turn _ _ hx kb,fun k hk=>.inl hk⟩;refine⟨r,rfl,hr,hP.same hS hP.st,T,A,K,nv,{ xs with vd:=.int .i64 vd,ml:=ml },D,Y,⟨hP.ss.turn _ _ hx kb,hP.yl,fun i cs p e1 e2=>(hP.ft i cs p e1 e2).ext hx (fun k _ hd e=>(hP.dk k hd).2 (.inl (.inl (.inl e)))),hP.st,hP.fw,fun k hk=>⟨Nat.lt_of_lt_of_le (hP.dk k hk).1 hx.size,(hP.dk k hk).2⟩⟩,fun e=>?_,fun e=>?_⟩
 ·obtain⟨rfl,mb,u,rfl,_,h1,h2⟩:=ht e;exact⟨rfl,mb,u,rfl,h1,h2⟩
 ·obtain⟨rfl,_⟩:=hf e
  rfl
theorem Fnd.val{w:World}{sb:Nat}{L:List (Nd × Int)}(h:Fnd w sb N L true)(hhd:U4 w):∃ I,(∀ f∈L.map Prod.fst,ftr (zd7 (Y1 I)) f=true)/\(∀ t,Y5 t->Sm (Y1 I t))/\qS9 w sb N I:=by
 obtain⟨T,A,K,nv,xs,D,Y,hP,ht,_⟩:=h;obtain⟨hvd,mb,u,hml,⟨hV,n,hn,hw⟩,hm⟩:=ht rfl;have hpo:O3 T A:=⟨hP.ss.p.ts.cl,hP.ss.p.ts.nd,hP.ss.p.ac,hP.ss.p.nd⟩;have hps:∀ p∈L.map Prod.fst,FmW p/\∀ x∈J0 false p,x∈A:=by intro p hp;obtain⟨q,hq,rfl⟩:=List.mem_map.1 hp;exact⟨hP.fw q hq,fun x hx=>(hP.st.aw.mem x).2 ⟨q,hq,hx⟩⟩
 refine⟨itpU T u,je1 hpo hps hV hn hw,fun t ht=>qz8 hpo hP.ss.tfew hV ht,fun W s nd hx hs hsz hr=>?_⟩;exact qT0 (hP.ss.ps.ext hx (fun f=>f) (fun _ _ f=>f)) hvd hml (hm.ext hx (fun f=>f)) hpo hP.ss.tfew hV (hhd.ext hx (fun f=>f)) hs hsz hr
end
def qS2:ByteArray:=⟨#[48,49,50,51,52,53,54,55,56,57]⟩
theorem qS3:((List.range 10).all fun n=>(qS2.extract n (n+1)).data.toList==[dig n])=true:=by decide +kernel
theorem zM8{n:Nat}(h:n<10):(qS2.extract n (n+1)).toList=[dig n]:=by have:=List.all_eq_true.1 qS3 n (List.mem_range.2 h);rw[ByteArray.toList_eq];simpa using this
theorem zb3(a b:ByteArray):(a++b).toList=a.toList++b.toList:=by rw[ByteArray.toList_eq,ByteArray.toList_eq,ByteArray.toList_eq,ByteArray.toList_data_append]
theorem zG0(f:Nat):∀ (n:Nat) (w:World),n<10^(f+1)->f<=3->Calls prog 22 #[.int .i64 n] w fun e w'=>∃ s:ByteArray,e=.returned (.string s)/\s.toList=zw3 f n/\q9 (fun _=>False) w w':=by
 induction f with
 | zero=>
  intro n w hn _;have HX:=q8 (q9.refl (fun _=>False) w);have hn':n<10:=by simpa using hn
  have h0:¬(n:Int)<0:=by omega
  have h10:(n:Int)<10:=by omega
  go_enter func22,ntmps22;go_wp2_with fail;go_ret;exact⟨qS2.extract n (n+1),rfl,by rw[zM8 hn',zw3],HX.out⟩
 | succ f ih=>
  intro n w hn hf;have h0:¬(n:Int)<0:=by omega
  have hb:n<10000:=by have:10^(f+1+1)<=10^4:=Nat.pow_le_pow_right (by omega) (by omega);omega
  by_cases hs:n<10
  ·have HX:=q8 (q9.refl (fun _=>False) w);have h10:(n:Int)<10:=by omega
   clear ih;go_enter func22,ntmps22;go_wp2_with fail;go_ret;exact⟨qS2.extract n (n+1),rfl,by rw[zM8 hs,zw3,if_pos hs],HX.out⟩
  ·have h10:¬(n:Int)<10:=by omega
   have HI:=q8 (ih (n/10) w.drew (by rw[Nat.pow_succ] at hn;omega) (by omega));obtain⟨q,hq0⟩:∃ q,n/10=q:=⟨_,rfl⟩;obtain⟨r,hr0⟩:∃ r,n%10=r:=⟨_,rfl⟩;have hq:(n:Int)/10=(q:Int):=by omega
   have hr:(n:Int)%10=(r:Int):=by omega
   have hq2:(n:Int).tdiv 10=(q:Int):=by rw[Int.tdiv_eq_ediv_of_nonneg (by omega),hq]
   have hr2:(n:Int).tmod 10=(r:Int):=by rw[Int.tmod_eq_emod_of_nonneg (by omega),hr]
   have hr10:r<10:=by omega
   have hc1:(0:Int)<=(r:Int)+1:=by omega
   have hc2:(r:Int)+1<=10:=by omega
   have hc3:(r:Int)<=(r:Int)+1:=by omega
   have hwq:IntKind.i64.wrap (q:Int)=q:=by rw[IntKind.wrap_i64];omega
   have hwr:IntKind.i64.wrap ((r:Int)+1)=(r:Int)+1:=by rw[IntKind.wrap_i64];omega
   rw[hq0] at HI;have HQ0:=q8 hq0;have HR0:=q8 hr0;clear ih hq0 hr0;go_enter func22,ntmps22;go_wp2_with fail
   go_region_law (go_simp;go_wp2_with (go_at_call 22;with_reducible refine HI.out.mono ?_;rintro e w1 ⟨s,rfl,hsl,hx⟩;have hsz:s.size<=5:=(by rw[<- Z4,hsl];have:=zi9 f q;omega);have hlim:¬9223372036854775807<s.size+(min (r+1) 10-r):=(by omega);have HSL:=q8 hsl;have HX1:=q8 hx;clear hsl hx))
   all_goals
    go_wp2_with fail;go_ret;refine⟨s++qS2.extract r (r+1),rfl,?_,((q9.refl _ w).drew).trans HX1.out⟩;rw[zb3,HSL.out,zM8 hr10,zw3,if_neg hs,HQ0.out,HR0.out]
theorem zG1(v:Int)(w:World)(h1:-1000<=v)(h2:v<=1000):Calls prog 22 #[.int .i64 v] w fun e w'=>∃ s:ByteArray,e=.returned (.string s)/\s.toList=ze7 v/\q9 (fun _=>False) w w':=by
 by_cases h0:v<0
 ·obtain⟨n,hn⟩:∃ n:Nat,-v=n:=⟨(-v).toNat,by omega⟩;have HI:=q8 (zG0 3 n w (by omega) (by omega));rw[<- hn] at HI;have HN:=q8 hn;clear hn;go_enter func22,ntmps22;go_wp2_with fail;refine HI.out.mono ?_;rintro e w1 ⟨s,rfl,hsl,hx⟩;have hsz:s.size<=5:=by rw[<- Z4,hsl];have:=zi9 3 n;omega
  have HSL:=q8 hsl;have HX1:=q8 hx;clear hsl hx HI;go_wp2_with fail;go_ret;refine⟨(⟨#[45]⟩:ByteArray)++s,rfl,?_,HX1.out⟩;rw[zb3,HSL.out,ze7,if_pos h0,HN.out];simp[ByteArray.toList_eq]
 ·obtain⟨n,rfl⟩:∃ n:Nat,v=n:=⟨v.toNat,by omega⟩;refine(zG0 3 n w (by omega) (by omega)).mono ?_;rintro e w1 ⟨s,rfl,hsl,hx⟩;exact⟨s,rfl,by rw[hsl,ze7,if_neg h0];rfl,hx⟩
def zZ8(w:World)(ga:Option Addr)(n:Nat)(g:Nat->Int):Prop:=∀ i,i<n->∃ b off,ga=some ⟨b,off,none⟩/\b<w.heap.size/\w.cell? ⟨b,off+i,none⟩=some (.int .i64 (g i)) /\ -9223372036854775808<=g i/\g i<=9223372036854775807
theorem zD9(v:Int):(ze7 v).length<=5:=by
 unfold ze7;split
 ·have:=zi9 3 (-v).toNat;simp;omega
 ·have:=zi9 3 v.toNat;omega
def zH0(l:List UInt8):Bool:=l==[102] || l==[103] || l==[61] || l==[60] || l==[60,61] || l==zk0 || l==zl0 || l==wOr || l==[61,62] || l==zo0
inductive KT(w:World)(D:Nat->Prop):Nat->Nd->Prop
 | num {t:Nat} {v:Int} (hb:w.heap[t]?=some (.cells #[.string ⟨#[35]⟩,.slice none 0 0,.int .i64 v] 72)) (hd:D t) (h1:-1000<=v) (h2:v<=1000):KT w D t (.mk 4 ByteArray.empty v [])
 | name {t:Nat} {wd:ByteArray} {by_:Int} (hb:w.heap[t]?=some (.cells #[.string wd,.slice none 0 0,.int .i64 by_] 72)) (hd:D t) (hw:wd.toList=[120]\/wd.toList=[121]\/wd.toList=[122]):KT w D t (.mk 3 wd 0 [])
 | node {t:Nat} {k:Int} {wd:ByteArray} {pv:Value} {by_:Int} {ps:List Nd} {ts:List Nat} (hb:w.heap[t]?=some (.cells #[.string wd,pv,.int .i64 by_] 72)) (hd:D t) (hk:k=1\/k=2\/k=3) (hw:zH0 wd.toList=true) (hne:ps≠[])
   (how:w.ownsRow 0 31 1 pv ps.length (ts.map fun a=>.pointer (some ⟨a,0,none⟩))) (hD:∀ g,pv.ownBlock=some g->D g) (hn:ts.length=ps.length) (hp:∀ (i:Nat) (a:Nat) (p:Nd),ts[i]?=some a->ps[i]?=some p->KT w D a p):KT w D t (.mk k wd 0 ps)
 | le {t:Nat} {wd:ByteArray} {pv:Value} {v:Int} {ps:List Nd} {ts:List Nat} (hb:w.heap[t]?=some (.cells #[.string wd,pv,.int .i64 v] 72)) (hd:D t) (hw:wd.toList=wLe) (h1:-1000<=v) (h2:v<=1000) (hne:ps≠[])
   (how:w.ownsRow 0 31 1 pv ps.length (ts.map fun a=>.pointer (some ⟨a,0,none⟩))) (hD:∀ g,pv.ownBlock=some g->D g) (hn:ts.length=ps.length) (hp:∀ (i:Nat) (a:Nat) (p:Nd),ts[i]?=some a->ps[i]?=some p->KT w D a p):KT w D t (.mk 2 wd 0 (ps++[.mk 5 ByteArray.empty v []]))
theorem KT.ext{S D:Nat->Prop}{w w':World}{t:Nat}{nd:Nd}(h:KT w D t nd)(hx:q9 S w w')(hS:∀ k,k<w.heap.size->D k->¬S k):KT w' D t nd:=by
 induction h with
 | num hb hd h1 h2=>exact .num ((hx.block _ (z8 hb) (hS _ (z8 hb) hd)).trans hb) hd h1 h2
 | name hb hd hw=>exact .name ((hx.block _ (z8 hb) (hS _ (z8 hb) hd)).trans hb) hd hw
 | node hb hd hk hw hne how hD hn hp ih=>exact .node ((hx.block _ (z8 hb) (hS _ (z8 hb) hd)).trans hb) hd hk hw hne (z7 how hx (fun k hk=>hS k (how.lt k hk).2 (hD k hk))) hD hn ih
 | le hb hd hw h1 h2 hne how hD hn hp ih=>exact .le ((hx.block _ (z8 hb) (hS _ (z8 hb) hd)).trans hb) hd hw h1 h2 hne (z7 how hx (fun k hk=>hS k (how.lt k hk).2 (hD k hk))) hD hn ih
theorem KT.mono{D D':Nat->Prop}{w:World}{t:Nat}{nd:Nd}(h:KT w D t nd)(hD':∀ k,k<w.heap.size->D k->D' k):KT w D' t nd:=by
 induction h with
 | num hb hd h1 h2=>exact .num hb (hD' _ (z8 hb) hd) h1 h2
 | name hb hd hw=>exact .name hb (hD' _ (z8 hb) hd) hw
 | node hb hd hk hw hne how hD hn hp ih=>exact .node hb (hD' _ (z8 hb) hd) hk hw hne how (fun g hg=>hD' g (how.lt g hg).2 (hD g hg)) hn ih
 | le hb hd hw h1 h2 hne how hD hn hp ih=>exact .le hb (hD' _ (z8 hb) hd) hw h1 h2 hne how (fun g hg=>hD' g (how.lt g hg).2 (hD g hg)) hn ih
structure RW(w:World)(rb:Nat)(ga:Option Addr)(n cap k:Nat)(g:Nat->Int):Prop where
 blk:w.heap[rb]?=some (.cells #[.slice ga n cap,.int .i64 k] 30)
 few:k<=n
 gaps:zZ8 w ga n g
 off:∀ b off,0<n->ga=some ⟨b,off,none⟩->¬b=rb
theorem zZ8.ext{S:Nat->Prop}{w w':World}{ga:Option Addr}{n:Nat}{g:Nat->Int}(h:zZ8 w ga n g)(hx:q9 S w w')(hS:∀ b off,0<n->ga=some ⟨b,off,none⟩->¬S b):zZ8 w' ga n g:=by intro i hi;obtain⟨b,off,e,hb,hc,h1,h2⟩:=h i hi;exact⟨b,off,e,Nat.lt_of_lt_of_le hb hx.size,(hx.cell (p:=⟨b,off+i,none⟩) hb (hS b off (by omega) e)).trans hc,h1,h2⟩
theorem RW.ext{S:Nat->Prop}{w w':World}{rb:Nat}{ga:Option Addr}{n cap k:Nat}{g:Nat->Int}(h:RW w rb ga n cap k g)(hx:q9 S w w')(h1:¬S rb)(hS:∀ b off,0<n->ga=some ⟨b,off,none⟩->¬S b):RW w' rb ga n cap k g :=
 ⟨(hx.block _ (z8 h.blk) h1).trans h.blk,h.few,h.gaps.ext hx hS,h.off⟩
theorem zi8{w:World}{rb:Nat}{ga:Option Addr}{n cap k:Nat}{g:Nat->Int}(h:RW w rb ga n cap k g)(hn:n<=maxLen)(m:Int)(hm:0<m/\m<=100):
  Calls prog 26 #[.pointer (some ⟨rb,0,none⟩),.int .i64 m] w fun e w'=>∃ (v:Int) (k':Nat),e=.returned (.int .i64 v)/\0<=v/\v<m/\RW w' rb ga n cap k' g/\q9 (fun i=>i=rb) w w':=by
 have c0:=z6 h.blk 0;have c1:=z6 h.blk 1;have f1:=Q8 h.blk 1;have hkn:=h.few;have H:=q8 h;unfold maxLen at hn;have HX:=q8 (q9.refl (fun i=>i=rb) w);by_cases hk:k<n
 ·obtain⟨b,off,rfl,hbl,hc,hg1,hg2⟩:=h.gaps k hk;have hne:¬b=rb:=h.off b off (by omega) rfl;have hlt:(k:Int)<(n:Int):=by omega
  clear h;go_enter func26,ntmps26;go_wp2_with fail
  go_region
  all_goals
   go_wp2_with fail;obtain⟨W,hW⟩:∃ W,(w.setCell ⟨rb,1,none⟩ (.int .i64 ((k:Int)+1))).drew=W:=⟨_,rfl⟩;have hxs:q9 (fun i=>i=rb) w W:=by rw[<- hW];exact((q9.refl (fun i=>i=rb) w).setCell (p:=⟨rb,1,none⟩) (fun _=>rfl) _).drew
   have kb2:W.heap[rb]?=some (.cells #[.slice (some ⟨b,off,none⟩) n cap,.int .i64 ((k:Int)+1)] 30):=by rw[<- hW];exact Y4 H.out.blk 1 _
   have hc2:W.cell? ⟨b,off+k,none⟩=some (.int .i64 (g k)):=(hxs.cell (p:=⟨b,off+k,none⟩) hbl hne).trans hc;have d0:=z6 kb2 0;have d1:=z6 kb2 1;have hwk:IntKind.i64.wrap ((k:Int)+1-1)=(k:Int):=by rw[IntKind.wrap_i64];omega
   have hwk2:(k:Int)+1-1=(k:Int):=by omega
   have hwk3:IntKind.i64.wrap (k:Int)=(k:Int):=by rw[IntKind.wrap_i64];omega
   have HPK:=q8 (qj7 (w:=W.drew) (g k) m ⟨hg1,hg2⟩ ⟨hm.1,by omega⟩);have HXS:=q8 hxs;have KB2:=q8 kb2;rw[hW];clear hW hxs kb2 c0 c1 f1 hc
   go_region_law (go_simp;go_wp2_with (go_at_call 21;refine HPK.out.mono ?_;rintro e w2 ⟨rfl,hx2⟩;have HX2:=q8 hx2;clear hx2))
   all_goals
    go_wp2_with fail;go_ret;have hp:=qj4 (g k) m hm.1;have hx2:q9 (fun _=>False) W w2:=((q9.refl (fun _=>False) W).drew).trans HX2.out;have hx:=HXS.out.trans (hx2.mono (fun _ _ f=>f.elim));refine⟨_,k+1,rfl,hp.1,hp.2,⟨?_,by omega,H.out.gaps.ext hx (fun b' o' e1 e=>H.out.off b' o' e1 e),H.out.off⟩,hx⟩;exact(hx2.block _ (z8 KB2.out) (fun f=>f)).trans KB2.out
 ·have hge:¬(k:Int)<(n:Int):=by omega
  have hge2:(n:Int)<=(k:Int):=by omega
  clear h;go_enter func26,ntmps26;go_wp2_with fail
  go_region
  all_goals
   go_wp2_with fail;go_ret;exact⟨0,k,rfl,Int.le_refl _,hm.1,H.out.ext ((q9.refl (fun _=>False) w).drew) (fun f=>f) (fun _ _ _ _ f=>f),HX.out.drew⟩
theorem zx7{l:List UInt8}(h:zH0 l=true)(b:List UInt8)(hb:zH0 b=false):(l==b)=false:=by rw[beq_eq_false_iff_ne];rintro rfl;rw[hb] at h;exact absurd h (by decide)
def WrT(w:World)(t:Nat)(nd:Nd):Prop:=∀ w',q9 (fun _=>False) w w'->(j9 nd).length<=4000->Calls prog 16 #[.pointer (some ⟨t,0,none⟩)] w' fun e w2=>∃ s:ByteArray,e=.returned (.string s)/\s.toList=j9 nd/\q9 (fun _=>False) w' w2
theorem jo8{w:World}{t:Nat}{v:Int}{pv:Value}(hb:w.heap[t]?=some (.cells #[.string ⟨#[35]⟩,pv,.int .i64 v] 72))(h1:-1000<=v)(h2:v<=1000):WrT w t (.mk 4 ByteArray.empty v []):=by
 intro w' hx _;have kb:=(hx.block _ (z8 hb) (fun f=>f)).trans hb;have c0:=z6 kb 0;have c2:=z6 kb 2;have HD:=q8 (zG1 v w' h1 h2);clear hx hb kb;go_enter func16,ntmps16;go_wp2_with fail;refine HD.out.mono ?_;rintro e w1 ⟨s,rfl,hsl,hx⟩;have HSL:=q8 hsl;have HX1:=q8 hx;clear hsl hx
 all_goals
  go_wp2_with fail;go_ret;exact⟨s,rfl,by rw[HSL.out,j9,if_neg (by decide),U0,if_pos (by decide)],HX1.out⟩
theorem jd7{w:World}{t:Nat}{wd:ByteArray}{pv:Value}{by_:Int}(hb:w.heap[t]?=some (.cells #[.string wd,pv,.int .i64 by_] 72))(hw:wd.toList=[120]\/wd.toList=[121]\/wd.toList=[122]):WrT w t (.mk 3 wd 0 []):=by
 intro w' hx _;have kb:=(hx.block _ (z8 hb) (fun f=>f)).trans hb;have c0:=z6 kb 0;have HX:=q8 (q9.refl (fun _=>False) w');clear hx hb kb;have e0:j9 (.mk 3 wd 0 [])=wd.toList:=by rw[j9,if_neg (by decide),U0,if_neg (by decide)]
 have E0:=q8 e0;have hw':wd=⟨#[120]⟩\/wd=⟨#[121]⟩\/wd=⟨#[122]⟩:=by
  rcases hw with e|e|e
  ·exact .inl (O6 (by rw[e,ByteArray.toList_eq]))
  ·exact .inr (.inl (O6 (by rw[e,ByteArray.toList_eq])))
  ·exact .inr (.inr (O6 (by rw[e,ByteArray.toList_eq])))
 clear hw e0;rcases hw' with rfl|rfl|rfl
 all_goals
  go_enter func16,ntmps16;go_wp2_with fail;go_ret;exact⟨_,rfl,E0.out.symm,HX.out⟩
theorem zM9:∀ (ps:List Nd) (p:Nd),Q9 (ps++[p])=Q9 ps++32::j9 p
 | [],p=>by simp[Q9]
 | q::ps,p=>by rw[List.cons_append,Q9,Q9,zM9 ps p];simp
def zh8(wd:ByteArray)(ps:List Nd)(i:Nat):List UInt8:=40::wd.toList++Q9 (ps.take i)
theorem qH1(wd:ByteArray)(ps:List Nd)(i:Nat):(zh8 wd ps i).length<=1+wd.size+(Q9 ps).length:=by have:=qn6 ps i;rw[<- Z4];simp[zh8];omega
theorem qs1(wd:ByteArray)(ps:List Nd):((⟨#[40]⟩:ByteArray)++wd).toList=zh8 wd ps 0:=by rw[zb3];simp[zh8,Q9,ByteArray.toList_eq]
theorem qs2{wd:ByteArray}{ps:List Nd}{i:Nat}{p:Nd}{s u:ByteArray}(hp:ps[i]?=some p)(hs:s.toList=zh8 wd ps i)(hu:u.toList=j9 p):(s++(⟨#[32]⟩:ByteArray)++u).toList=zh8 wd ps (i+1):=by rw[zb3,zb3,hs,hu,zh8,zh8,zR3 hp];simp[ByteArray.toList_eq]
theorem qs3{w:World}{e size n:Nat}{v:Value}{xs:List Value}(h:w.ownsRow 0 e size v n xs):∃ a cap,v=.slice a n cap:=by
 rcases h.2 with⟨e,e0⟩|⟨g,cap,cur,hv,_⟩
 ·exact⟨none,0,by rw[e,e0]⟩
 ·exact⟨_,cap,hv⟩
def leT(wd:ByteArray)(v:Int):List UInt8:=if wd.toList=wLe then 32::ze7 v else []
theorem qi6{ps:List Nd}{i:Nat}{p:Nd}(h:ps[i]?=some p):(j9 p).length<=(Q9 ps).length:=by have:=qn6 ps (i+1);rw[zR3 h] at this;simp at this;omega
theorem qz4{w w':World}{t:Nat}{wd:ByteArray}{pv:Value}{v:Int}{ps:List Nd}{ts:List Nat}(hb:w.heap[t]?=some (.cells #[.string wd,pv,.int .i64 v] 72))(hw:zH0 wd.toList=true\/wd.toList=wLe /\ -1000<=v/\v<=1000)
  (how:w.ownsRow 0 31 1 pv ps.length (ts.map fun a=>.pointer (some ⟨a,0,none⟩))) (hn:ts.length=ps.length) (hp:∀ (i:Nat) (a:Nat) (p:Nd),ts[i]?=some a->ps[i]?=some p->WrT w a p) (hx:q9 (fun _=>False) w w') (hlen:wd.size+(Q9 ps).length<=4000):
  Calls prog 16 #[.pointer (some ⟨t,0,none⟩)] w' fun e w2=>∃ s:ByteArray,e=.returned (.string s)/\s.toList=zh8 wd ps ps.length++leT wd v++[41]/\q9 (fun _=>False) w' w2:=by
 have kb:=(hx.block _ (z8 hb) (fun f=>f)).trans hb;have c0:=z6 kb 0;have c1:=z6 kb 1;have c2:=z6 kb 2;have q:(wd.toList==[35])=false/\(wd.toList==[120])=false/\(wd.toList==[121])=false/\(wd.toList==[122])=false/\(wd.toList==[116,114,117,101])=false/\(wd.toList==[102,97,108,115,101])=false:=by
  rcases hw with hw|⟨hw,_⟩
  ·exact⟨zx7 hw _ rfl,zx7 hw _ rfl,zx7 hw _ rfl,zx7 hw _ rfl,zx7 hw _ rfl,zx7 hw _ rfl⟩
  ·rw[hw];decide
 obtain⟨q1,q2,q3,q4,q5,q6⟩:=q;obtain⟨a,cap,rfl⟩:=qs3 how;have hl3:=qN2 ps;have HX:=q8 hx;have HOW:=q8 how;have HPP:=q8 hp;have HHN:=q8 hn;have HHW:=q8 hw;have KB:=q8 kb;clear hp hx how hb kb hw hn;go_enter func16,ntmps16;go_wp2_with fail
 go_loopw [4,5] (fun vs vi wr=>∃ (j:Nat) (s:ByteArray),j<=ps.length/\vs=.string s/\vi=.int .i64 j/\s.toList=zh8 wd ps j/\q9 (fun _=>False) w' wr) (fun _ vi _=>ps.length-(intOf vi).toNat)
 case atStart=>exact⟨0,_,Nat.zero_le _,rfl,rfl,qs1 wd ps,q9.refl _ _⟩
 case round=>
  clear c0 c1 c2;obtain⟨j,s,hj,rfl,rfl,hs,hxr⟩:=hrel;have kb:=(hxr.block _ (z8 KB.out) (fun f=>f)).trans KB.out;have c0:=z6 kb 0;have c1:=z6 kb 1;have c2:=z6 kb 2;have hsz:s.size<=1+wd.size+(Q9 ps).length:=by rw[<- Z4,hs];exact qH1 _ _ _
  have HS:=q8 hs;have HXR:=q8 hxr;clear kb hs hxr;have l1:¬9223372036854775807<s.size+1:=by omega
  by_cases hlt:j<ps.length
  ·obtain⟨p,hp⟩:∃ p,ps[j]?=some p:=⟨_,List.getElem?_eq_getElem hlt⟩;obtain⟨ta,hta⟩:∃ ta,ts[j]?=some ta:=⟨_,List.getElem?_eq_getElem (by rw[HHN.out];exact hlt)⟩;obtain⟨g,hsa,hgl⟩:∃ g,a=some ⟨g,0,none⟩/\g<w.heap.size:=by
    rcases HOW.out.2 with⟨_,e⟩|⟨g,cap,cur,hv,_,hg,_⟩
    ·omega
    ·simp at hv;exact⟨g,hv.1,z8 hg⟩
   subst hsa;have hlI:(j:Int)<(ps.length:Int):=by omega
   have e0:wr.cell? ⟨g,j,none⟩=some (.pointer (some ⟨ta,0,none⟩)):=by rw[(HX.out.trans HXR.out).cell (p:=⟨g,j,none⟩) hgl (fun f=>f),HOW.out.cellAt j (by omega)];simp[hta]
   have hpl:=qi6 hp;have HI:=q8 (HPP.out j ta p hta hp wr (HX.out.trans HXR.out) (by omega));have HP:=q8 hp;clear hp hta;go_wp2_with fail;refine HI.out.mono ?_;rintro e w3 ⟨u,rfl,hu,hx3⟩;have hus:u.size<=(Q9 ps).length:=by rw[<- Z4,hu];exact hpl
   have l2:¬9223372036854775807<s.size+1+u.size:=by omega
   have HU:=q8 hu;have HX3:=q8 hx3;clear hu hx3
   all_goals
    go_wp2_with fail
    go_roundw
    case measure=>simp[intOf];omega
    case rel=>exact⟨j+1,_,by omega,rfl,by go_num,qs2 HP.out HS.out HU.out,HXR.out.trans HX3.out⟩
  ·have hge:¬(j:Int)<(ps.length:Int):=by omega
   obtain rfl:j=ps.length:=by omega
   rcases HHW.out with hw|⟨hw,h1,h2⟩
   ·have q7:=zx7 hw [108,101] rfl;have hne:¬wd.toList=wLe:=fun e=>by rw[e] at q7;exact absurd q7 (by decide)
    clear hw;go_wp2_with fail;go_ret;exact⟨_,rfl,by rw[zb3,HS.out,leT,if_neg hne];simp[ByteArray.toList_eq],HXR.out⟩
   ·have q7:(wd.toList==[108,101])=true:=by rw[hw];rfl
    have HD:=q8 (zG1 v wr h1 h2);have HW:=q8 hw;clear hw;go_wp2_with fail;refine HD.out.mono ?_;rintro e w3 ⟨u,rfl,hu,hx3⟩;have hus:u.size<=5:=by rw[<- Z4,hu];exact zD9 v
    have l2:¬9223372036854775807<s.size+1+u.size:=by omega
    have l3:¬9223372036854775807<s.size+1+u.size+1:=by omega
    have HU:=q8 hu;have HX3:=q8 hx3;clear hu hx3
    all_goals
     go_wp2_with fail;go_ret;exact⟨_,rfl,by rw[zb3,zb3,zb3,HS.out,HU.out,leT,if_pos HW.out];simp[ByteArray.toList_eq],HXR.out.trans HX3.out⟩
theorem zN0{w:World}{D:Nat->Prop}{t:Nat}{nd:Nd}(h:KT w D t nd):WrT w t nd:=by
 induction h with
 | num hb hd h1 h2=>exact jo8 hb h1 h2
 | name hb hd hw=>exact jd7 hb hw
 | @node t k wd pv by_ ps ts hb hd hk hw hne how hD hn hp ih=>
  have ef:j9 (.mk k wd 0 ps)=zh8 wd ps ps.length++leT wd by_++[41]:=by
   have hne2:¬wd.toList=wLe:=fun e=>by rw[e] at hw;exact absurd hw (by decide)
   rw[j9,if_pos (Or.inr (Or.inr hne)),U0,if_neg (by omega),leT,if_neg hne2,zh8,List.take_length];simp
  intro w' hx hlen;rw[ef] at hlen ⊢;refine qz4 hb (.inl hw) how hn ih hx ?_;rw[<- Z4];simp[zh8] at hlen;omega
 | @le t wd pv v ps ts hb hd hw h1 h2 hne how hD hn hp ih=>
  have ef:j9 (.mk 2 wd 0 (ps++[.mk 5 ByteArray.empty v []]))=zh8 wd ps ps.length++leT wd v++[41]:=by rw[j9,if_pos (Or.inr (Or.inl rfl)),U0,if_neg (by decide),leT,if_pos hw,zh8,List.take_length,zM9,j9,if_neg (by decide),U0,if_pos (by decide)];simp
  intro w' hx hlen;rw[ef] at hlen ⊢;refine qz4 hb (.inr ⟨hw,h1,h2⟩) how hn ih hx ?_;rw[<- Z4];simp[zh8] at hlen;omega
structure zZ9(N:List Nm):Prop where
 x:za8 N [120]=some 0
 y:za8 N [121]=some 0
 z:za8 N [122]=some 0
 f:za8 N [102]=some 1
 g:za8 N [103]=some 2
def qi7:Nat->Nat
 | 0=>2
 | d+1=>2*qi7 d+5
theorem qi8:∀ d,2<=qi7 d
 | 0=>Nat.le_refl _
 | d+1=>by rw[qi7];omega
def TmD(N:List Nm)(d:Nat)(nd:Nd):Prop:=(∀ δ,δ+d<=30->RT N δ nd)/\(j9 nd).length<=qi7 d
def Mk(w:World)(rb:Nat)(ga:Option Addr)(n cap:Nat)(g:Nat->Int)(R:Nd->Prop)(e:Ending)(w':World):Prop :=
 ∃ t nd k',e=.returned (.pointer (some ⟨t,0,none⟩))/\KT w' (fun i=>w.heap.size<=i) t nd/\R nd/\RW w' rb ga n cap k' g/\q9 (fun i=>i=rb) w w'
section
variable{w w1 W:World}{rb:Nat}{ga:Option Addr}{n cap k:Nat}{g:Nat->Int}{N:List Nm}
theorem zu2(hN:zZ9 N)(d:Nat)(h:RW w1 rb ga n cap k g)(hx:q9 (fun i=>i=rb) w w1){wd:ByteArray}(hw:wd.toList=[120]\/wd.toList=[121]\/wd.toList=[122]):
  Mk w rb ga n cap g (TmD N d) (.returned (.pointer (some ⟨w1.heap.size,0,none⟩))) (w1.alloc (.cells #[.string wd,.slice none 0 0,.int .i64 0] 72)):=by
 have ef:j9 (.mk 3 wd 0 [])=wd.toList:=by rw[j9,if_neg (by decide),U0,if_neg (by decide)]
 refine⟨_,.mk 3 wd 0 [],k,rfl,.name (heap_alloc_new _ _) hx.size hw,⟨fun δ _=>.name ?_ ?_,?_⟩,h.ext ((q9.refl (fun _=>False) w1).alloc _) (fun f=>f) (fun _ _ _ _ f=>f),hx.alloc _⟩
 ·rcases hw with e|e|e<;>rw[e]<;>decide
 ·rcases hw with e|e|e<;>rw[e]
  ·exact hN.x
  ·exact hN.y
  ·exact hN.z
 ·have:=qi8 d;rw[ef];rcases hw with e|e|e<;>rw[e]<;>simp<;>omega
theorem qS4(d:Nat)(h:RW w1 rb ga n cap k g)(hx:q9 (fun i=>i=rb) w w1){v:Int}(h1:-2<=v)(h2:v<=2):
  Mk w rb ga n cap g (TmD N d) (.returned (.pointer (some ⟨w1.heap.size,0,none⟩))) (w1.alloc (.cells #[.string ⟨#[35]⟩,.slice none 0 0,.int .i64 v] 72)):=by
 have ef:j9 (.mk 4 ByteArray.empty v [])=ze7 v:=by rw[j9,if_neg (by decide),U0,if_pos (by decide)]
 refine⟨_,.mk 4 ByteArray.empty v [],k,rfl,.num (heap_alloc_new _ _) hx.size (by omega) (by omega),⟨fun δ _=>.num (by omega) (by omega),?_⟩,h.ext ((q9.refl (fun _=>False) w1).alloc _) (fun f=>f) (fun _ _ _ _ f=>f),hx.alloc _⟩;have:=qi8 d;rw[ef];have hv:v = -2\/v = -1\/v=0\/v=1\/v=2:=by omega
 have:(ze7 v).length<=2:=by rcases hv with rfl|rfl|rfl|rfl|rfl<;>decide
 omega
theorem jd8{W:World}{g e:Nat}{x:Value}(h:W.heap[g]?=some (.cells #[x] e)):W.ownsRow 0 e 1 (.slice (some ⟨g,0,none⟩) 1 1) 1 [x] :=
 ⟨rfl,Or.inr ⟨g,1,#[x],rfl,Nat.zero_le _,h,Nat.le_refl _,by decide,rfl,rfl⟩⟩
theorem qz5{W:World}{g e:Nat}{x y:Value}(h:W.heap[g]?=some (.cells #[x,y] e)):W.ownsRow 0 e 1 (.slice (some ⟨g,0,none⟩) 2 2) 2 [x,y] :=
 ⟨rfl,Or.inr ⟨g,2,#[x,y],rfl,Nat.zero_le _,h,Nat.le_refl _,by decide,rfl,rfl⟩⟩
theorem qS5{D:Nat->Prop}{a t q:Nat}{p:Nd}{kk:Int}{wd:ByteArray}{by_:Int}(hb:W.heap[t]?=some (.cells #[.string wd,.slice (some ⟨q,0,none⟩) 1 1,.int .i64 by_] 72))(hq:W.heap[q]?=some (.cells #[.pointer (some ⟨a,0,none⟩)] 31))(ht:D t)(hqd:D q)(hk:kk=1\/kk=2\/kk=3)(hw:zH0 wd.toList=true)(ha:KT W D a p):KT W D t (.mk kk wd 0 [p]):=by
 refine .node (ts:=[a]) hb ht hk hw (by simp) (jd8 hq) (fun k e=>?_) rfl (fun i b r h1 h2=>?_)
 ·simp[Value.ownBlock] at e;exact e▸hqd
 ·match i,h1,h2 with
  | 0,h1,h2=>simp at h1 h2;subst h1 h2;exact ha
theorem qs4{D:Nat->Prop}{a b t q:Nat}{p r:Nd}{kk:Int}{wd:ByteArray}{by_:Int}(hb:W.heap[t]?=some (.cells #[.string wd,.slice (some ⟨q,0,none⟩) 2 2,.int .i64 by_] 72))(hq:W.heap[q]?=some (.cells #[.pointer (some ⟨a,0,none⟩),.pointer (some ⟨b,0,none⟩)] 31))(ht:D t)(hqd:D q)(hk:kk=1\/kk=2\/kk=3)(hw:zH0 wd.toList=true)(ha:KT W D a p)(hbb:KT W D b r):KT W D t (.mk kk wd 0 [p,r]):=by
 refine .node (ts:=[a,b]) hb ht hk hw (by simp) (qz5 hq) (fun k e=>?_) rfl (fun i b r h1 h2=>?_)
 ·simp[Value.ownBlock] at e;exact e▸hqd
 ·match i,h1,h2 with
  | 0,h1,h2=>simp at h1 h2;subst h1 h2;exact ha
  | 1,h1,h2=>simp at h1 h2;subst h1 h2;exact hbb
theorem js9{D:Nat->Prop}{a b t q:Nat}{p r:Nd}{wd:ByteArray}{v:Int}(hb:W.heap[t]?=some (.cells #[.string wd,.slice (some ⟨q,0,none⟩) 2 2,.int .i64 v] 72))(hq:W.heap[q]?=some (.cells #[.pointer (some ⟨a,0,none⟩),.pointer (some ⟨b,0,none⟩)] 31))(ht:D t)(hqd:D q)(hw:wd.toList=wLe)(h1:-1000<=v)(h2:v<=1000)(ha:KT W D a p)(hbb:KT W D b r):KT W D t (.mk 2 wd 0 [p,r,.mk 5 ByteArray.empty v []]):=by
 refine KT.le (ps:=[p,r]) (ts:=[a,b]) hb ht hw h1 h2 (by simp) (qz5 hq) (fun k e=>?_) rfl (fun i b r h1 h2=>?_)
 ·simp[Value.ownBlock] at e;exact e▸hqd
 ·match i,h1,h2 with
  | 0,h1,h2=>simp at h1 h2;subst h1 h2;exact ha
  | 1,h1,h2=>simp at h1 h2;subst h1 h2;exact hbb
theorem qz6(kk:Int)(wd:ByteArray)(p:Nd)(hk:kk=1\/kk=2\/kk=3):(j9 (.mk kk wd 0 [p])).length=wd.size+(j9 p).length+3:=by rw[j9,if_pos (Or.inr (Or.inr (by simp))),U0,if_neg (by omega),Q9,Q9,<- Z4];simp;omega
theorem qa0(kk:Int)(wd:ByteArray)(p r:Nd)(hk:kk=1\/kk=2\/kk=3):(j9 (.mk kk wd 0 [p,r])).length=wd.size+(j9 p).length+(j9 r).length+4:=by rw[j9,if_pos (Or.inr (Or.inr (by simp))),U0,if_neg (by omega),Q9,Q9,Q9,<- Z4];simp;omega
theorem jo9(wd:ByteArray)(p r:Nd)(v:Int):(j9 (.mk 2 wd 0 [p,r,.mk 5 ByteArray.empty v []])).length=wd.size+(j9 p).length+(j9 r).length+(ze7 v).length+5:=by rw[j9,if_pos (Or.inr (Or.inr (by simp))),U0,if_neg (by decide),Q9,Q9,Q9,Q9,j9.eq_1 5,if_neg (by decide),U0,if_pos (by decide),<- Z4];simp;omega
theorem jv5(hN:zZ9 N){d:Nat}{p:Nd}(h:TmD N d p):TmD N (d+1) (.mk 3 ⟨#[102]⟩ 0 [p]):=by
 have e:(⟨#[102]⟩:ByteArray).toList=[102]:=by rw[ByteArray.toList_eq]
 refine⟨fun δ hδ=>.app (by rw[e];decide) (by simp) (by rw[e];exact hN.f) (by omega) (fun q hq=>?_),?_⟩
 ·simp at hq;subst hq;exact h.1 _ (by omega)
 ·have:=h.2;rw[qz6 _ _ _ (by omega),qi7,show(⟨#[102]⟩:ByteArray).size=1 from rfl];omega
theorem jv6(hN:zZ9 N){d:Nat}{p q:Nd}(h:TmD N d p)(h2:TmD N d q):TmD N (d+1) (.mk 3 ⟨#[103]⟩ 0 [p,q]):=by
 have e:(⟨#[103]⟩:ByteArray).toList=[103]:=by rw[ByteArray.toList_eq]
 refine⟨fun δ hδ=>.app (by rw[e];decide) (by simp) (by rw[e];exact hN.g) (by omega) (fun r hr=>?_),?_⟩
 ·simp at hr;rcases hr with rfl|rfl
  ·exact h.1 _ (by omega)
  ·exact h2.1 _ (by omega)
 ·have:=h.2;have:=h2.2;rw[qa0 _ _ _ _ (by omega),qi7,show(⟨#[103]⟩:ByteArray).size=1 from rfl];omega
theorem jt0:((⟨#[120,121,122]⟩:ByteArray).extract 0 1).toList=[120]:=by rw[ByteArray.toList_eq];rfl
theorem jt1:((⟨#[120,121,122]⟩:ByteArray).extract 1 2).toList=[121]:=by rw[ByteArray.toList_eq];rfl
theorem jt2:((⟨#[120,121,122]⟩:ByteArray).extract 2 3).toList=[122]:=by rw[ByteArray.toList_eq];rfl
theorem qi9(w:World)(o1 o2:Obj):((w.alloc o1).alloc o2).heap[w.heap.size]?=some o1:=by have h1:=heap_alloc_new w o1;exact(((q9.refl (fun _=>False) (w.alloc o1)).alloc o2).block _ (z8 h1) (fun f=>f)).trans h1
theorem qj0(w:World)(o1 o2:Obj):((w.alloc o1).alloc o2).heap[w.heap.size+1]?=some o2:=by have:=heap_alloc_new (w.alloc o1) o2;simpa using this
theorem jp0{R:Nd->Prop}{w2:World}{t:Nat}{nd:Nd}(kt:KT w2 (fun i=>w.heap.size<=i) t nd)(hx:q9 (fun i=>i=rb) w w2)(h2:RW w2 rb ga n cap k g){kk:Int}{wd:ByteArray}(hk:kk=1\/kk=2\/kk=3)(hw:zH0 wd.toList=true)(hR:R (.mk kk wd 0 [nd])):
  Mk w rb ga n cap g R (.returned (.pointer (some ⟨w2.heap.size+1,0,none⟩))) ((w2.alloc (.cells #[.pointer (some ⟨t,0,none⟩)] 31)).alloc (.cells #[.string wd,.slice (some ⟨w2.heap.size,0,none⟩) 1 1,.int .i64 0] 72)):=by
 have hs:=hx.size;refine⟨_,_,k,rfl,qS5 (qj0 _ _ _) (qi9 _ _ _) (by omega) hs hk hw (kt.ext (((q9.refl (fun _=>False) w2).alloc _).alloc _) (fun _ _ _ f=>f)),hR,h2.ext (((q9.refl (fun _=>False) w2).alloc _).alloc _) (fun f=>f) (fun _ _ _ _ f=>f),(hx.alloc _).alloc _⟩
theorem jp1{R:Nd->Prop}{w2:World}{t u:Nat}{nd nd2:Nd}(kt:KT w2 (fun i=>w.heap.size<=i) t nd)(ku:KT w2 (fun i=>w.heap.size<=i) u nd2)(hx:q9 (fun i=>i=rb) w w2)(h2:RW w2 rb ga n cap k g){kk:Int}{wd:ByteArray}(hk:kk=1\/kk=2\/kk=3)(hw:zH0 wd.toList=true)(hR:R (.mk kk wd 0 [nd,nd2])):
  Mk w rb ga n cap g R (.returned (.pointer (some ⟨w2.heap.size+1,0,none⟩))) ((w2.alloc (.cells #[.pointer (some ⟨t,0,none⟩),.pointer (some ⟨u,0,none⟩)] 31)).alloc (.cells #[.string wd,.slice (some ⟨w2.heap.size,0,none⟩) 2 2,.int .i64 0] 72)):=by
 have hs:=hx.size;have hx2:=((q9.refl (fun _=>False) w2).alloc (.cells #[.pointer (some ⟨t,0,none⟩),.pointer (some ⟨u,0,none⟩)] 31)).alloc (.cells #[.string wd,.slice (some ⟨w2.heap.size,0,none⟩) 2 2,.int .i64 0] 72);refine⟨_,_,k,rfl,qs4 (qj0 _ _ _) (qi9 _ _ _) (by omega) hs hk hw (kt.ext hx2 (fun _ _ _ f=>f)) (ku.ext hx2 (fun _ _ _ f=>f)),hR,h2.ext hx2 (fun f=>f) (fun _ _ _ _ f=>f),(hx.alloc _).alloc _⟩
theorem KT.over{w1 w2:World}{t:Nat}{nd:Nd}{b:Nat}(kt:KT w1 (fun i=>b<=i) t nd)(hx:q9 (fun i=>i=rb) w1 w2)(hb:w.heap.size<=b)(hrb:rb<w.heap.size):KT w2 (fun i=>w.heap.size<=i) t nd :=
 (kt.ext hx (fun k _ e f=>by omega)).mono (fun k _ e=>by omega)
def qz7(N:List Nm)(rb:Nat)(ga:Option Addr)(n cap:Nat)(g:Nat->Int)(d:Nat):Prop :=
 ∀ (w:World) (k:Nat),RW w rb ga n cap k g->Calls prog 27 #[.pointer (some ⟨rb,0,none⟩),.int .i64 d] w (Mk w rb ga n cap g (TmD N d))
theorem qH2(hN:zZ9 N)(hn:n<=maxLen):qz7 N rb ga n cap g 0:=by
 intro w k h;have HN:=q8 hN;have HC:=q8 (zi8 h hn 8 (by omega));clear h hN;go_enter func27,ntmps27;go_wp2_with fail;refine HC.out.mono ?_;rintro e w1 ⟨v,k1,rfl,h0,h8,h1,hx1⟩;have H1:=q8 h1;have HX1:=q8 hx1;clear h1 hx1 HC;have hv:(v=0\/v=1\/v=2\/v=3\/v=4\/v=5)\/v=6\/v=7:=by omega
 clear h0 h8;rcases hv with hv|hv
 ·rcases hv with rfl|rfl|rfl|rfl|rfl|rfl
  all_goals
   go_wp2_with fail;go_ret
   first
    | exact zu2 HN.out _ H1.out HX1.out (.inl jt0)
    | exact zu2 HN.out _ H1.out HX1.out (.inr (.inl jt1))
    | exact zu2 HN.out _ H1.out HX1.out (.inr (.inr jt2))
 ·have HC2:=q8 (zi8 H1.out hn 5 (by omega));rcases hv with rfl|rfl
  all_goals
   go_wp2_with fail;refine HC2.out.mono ?_;rintro e w2 ⟨u,k2,rfl,h0,h5,h2,hx2⟩;have H2:=q8 h2;have HX2:=q8 (HX1.out.trans hx2);clear h2 hx2;go_wp2_with fail;go_ret;exact qS4 _ H2.out HX2.out (by omega) (by omega)
theorem qH3(hN:zZ9 N)(hn:n<=maxLen){d:Nat}(hd:d<=20)(ih:qz7 N rb ga n cap g d):qz7 N rb ga n cap g (d+1):=by
 intro w k h;have HN:=q8 hN;have HI:=q8 ih;have HC:=q8 (zi8 h hn 8 (by omega));have hrb:rb<w.heap.size:=z8 h.blk;rw[show(((d+1:Nat)):Int)=(d:Int)+1 by omega];have hd0:((d:Int)+1==0)=false:=by rw[beq_eq_false_iff_ne];omega
 have hd1:(d:Int)+1-1=(d:Int):=by omega
 have hd2:IntKind.i64.wrap ((d:Int)+1-1)=(d:Int):=by rw[IntKind.wrap_i64];omega
 have hd3:IntKind.i64.wrap (d:Int)=(d:Int):=by rw[IntKind.wrap_i64];omega
 clear h hN ih;go_enter func27,ntmps27;go_wp2_with fail;refine HC.out.mono ?_;rintro e w1 ⟨v,k1,rfl,h0,h8,h1,hx1⟩;have H1:=q8 h1;have HX1:=q8 hx1;clear h1 hx1 HC;have hv:(v=0\/v=1\/v=2)\/v=3\/(v=4\/v=5)\/(v=6\/v=7):=by omega
 clear h0 h8;rcases hv with hv|rfl|hv|hv
 ·rcases hv with rfl|rfl|rfl
  all_goals
   go_wp2_with fail;go_ret
   first
    | exact zu2 HN.out _ H1.out HX1.out (.inl jt0)
    | exact zu2 HN.out _ H1.out HX1.out (.inr (.inl jt1))
    | exact zu2 HN.out _ H1.out HX1.out (.inr (.inr jt2))
 ·have HC2:=q8 (HI.out w1 k1 H1.out);go_wp2_with fail;refine HC2.out.mono ?_;rintro e w2 ⟨t,nd,k2,rfl,kt,hR,h2,hx2⟩;have KT1:=q8 kt;have HR:=q8 hR;have HX2:=q8 (HX1.out.trans hx2);have HX12:=q8 hx2;have HC3:=q8 (HI.out w2 k2 h2);clear h2 hx2 kt hR;go_wp2_with fail;refine HC3.out.mono ?_;rintro e w3 ⟨u,nd2,k3,rfl,ku,hR2,h3,hx3⟩;have KT2:=q8 ku;have HR2:=q8 hR2;have H3:=q8 h3;have HX3:=q8 hx3;clear h3 hx3 ku hR2;go_wp2_with fail;go_ret;exact jp1 (KT1.out.over (HX3.out) HX1.out.size hrb) (KT2.out.mono (fun i _ e=>Nat.le_trans HX2.out.size e)) (HX2.out.trans HX3.out) H3.out (by omega) (by rw[ByteArray.toList_eq];rfl) (jv6 HN.out HR.out HR2.out)
 ·have HC2:=q8 (HI.out w1 k1 H1.out);rcases hv with rfl|rfl
  all_goals
   go_wp2_with fail;refine HC2.out.mono ?_;rintro e w2 ⟨t,nd,k2,rfl,kt,hR,h2,hx2⟩;have KT1:=q8 kt;have HR:=q8 hR;have H2:=q8 h2;have HX2:=q8 (HX1.out.trans hx2);have HX12:=q8 hx2;clear h2 hx2 kt hR;go_wp2_with fail;go_ret;exact jp0 (KT1.out.mono (fun i _ e=>Nat.le_trans HX1.out.size e)) HX2.out H2.out (by omega) (by rw[ByteArray.toList_eq];rfl) (jv5 HN.out HR.out)
 ·have HC2:=q8 (zi8 H1.out hn 5 (by omega));rcases hv with rfl|rfl
  all_goals
   go_wp2_with fail;refine HC2.out.mono ?_;rintro e w2 ⟨u,k2,rfl,h0,h5,h2,hx2⟩;have H2:=q8 h2;have HX2:=q8 (HX1.out.trans hx2);clear h2 hx2;go_wp2_with fail;go_ret;exact qS4 _ H2.out HX2.out (by omega) (by omega)
theorem zE0(hN:zZ9 N)(hn:n<=maxLen):∀ d:Nat,d<=20->qz7 N rb ga n cap g d
 | 0,_=>qH2 hN hn
 | d+1,h=>qH3 hN hn (by omega) (zE0 hN hn d (by omega))
end
def qH4:Nat->Nat
 | 0=>27
 | d+1=>2*qH4 d+7
theorem qa1:∀ d,27<=qH4 d
 | 0=>Nat.le_refl _
 | d+1=>by have:=qa1 d;rw[qH4];omega
def FmD(N:List Nm)(d:Nat)(nd:Nd):Prop:=(∀ δ,δ+d<=25->RF N δ nd)/\(j9 nd).length<=qH4 d
inductive MF(N:List Nm):Nat->Nd->Prop
 | two {d:Nat} {wd:ByteArray} {a b:Nd} (hw:wd.toList=[61]\/wd.toList=[60]\/wd.toList=[60,61]) (ha:TmD N 1 a) (hb:TmD N 1 b):MF N d (.mk 2 wd 0 [a,b])
 | le {d:Nat} {wd:ByteArray} {a b:Nd} {v:Int} (hw:wd.toList=wLe) (ha:TmD N 1 a) (hb:TmD N 1 b) (h1:-3<=v) (h2:v<=3):MF N d (.mk 2 wd 0 [a,b,.mk 5 ByteArray.empty v []])
 | not {d:Nat} {wd:ByteArray} {a:Nd} (hw:wd.toList=zk0) (ha:MF N d a):MF N (d+1) (.mk 1 wd 0 [a])
 | con {d:Nat} {wd:ByteArray} {a b:Nd} (hw:wd.toList=zl0\/wd.toList=wOr\/wd.toList=[61,62]\/wd.toList=zo0) (ha:MF N d a) (hb:MF N d b):MF N (d+1) (.mk 1 wd 0 [a,b])
section
variable{w w1 W:World}{rb:Nat}{ga:Option Addr}{n cap k:Nat}{g:Nat->Int}{N:List Nm}
theorem jt3(d:Nat){a b:Nd}{wd:ByteArray}(hw:zo1 wd.toList=some (2,3))(hs:wd.size<=3)(ha:TmD N 1 a)(hb:TmD N 1 b):FmD N d (.mk 2 wd 0 [a,b]):=by refine⟨fun δ hδ=>.two hw (by omega) (ha.1 _ (by omega)) (hb.1 _ (by omega)),?_⟩;have h1:=ha.2;have h2:=hb.2;have h3:=qa1 d;rw[show qi7 1=9 from rfl] at h1 h2;rw[qa0 _ _ _ _ (by omega)];omega
theorem jt4(d:Nat){a b:Nd}{wd:ByteArray}(hw:zo1 wd.toList=some (2,4))(hs:wd.size<=2)(ha:TmD N 1 a)(hb:TmD N 1 b){v:Int}(h1:-3<=v)(h2:v<=3):FmD N d (.mk 2 wd 0 [a,b,.mk 5 ByteArray.empty v []]):=by
 refine⟨fun δ hδ=>.le hw (by omega) (ha.1 _ (by omega)) (hb.1 _ (by omega)) (by omega) (by omega),?_⟩;have e1:=ha.2;have e2:=hb.2;have e3:=qa1 d;rw[show qi7 1=9 from rfl] at e1 e2;have hv:v = -3\/v = -2\/v = -1\/v=0\/v=1\/v=2\/v=3:=by omega
 have:(ze7 v).length<=2:=by rcases hv with rfl|rfl|rfl|rfl|rfl|rfl|rfl<;>decide
 rw[jo9];omega
theorem jp2{d:Nat}{a:Nd}{wd:ByteArray}(hw:zo1 wd.toList=some (1,0))(hs:wd.size<=3)(ha:FmD N d a):FmD N (d+1) (.mk 1 wd 0 [a]):=by
 refine⟨fun δ hδ=>.con hw (.inl ⟨rfl,rfl⟩) (by omega) (fun p hp=>?_),?_⟩
 ·simp at hp;subst hp;exact ha.1 _ (by omega)
 ·have e1:=ha.2;rw[qz6 _ _ _ (by omega),qH4];omega
theorem qa2{d:Nat}{a b:Nd}{wd:ByteArray}{s:Int}(hw:zo1 wd.toList=some (1,s))(hs1:s=1\/s=2)(hs:wd.size<=3)(ha:FmD N d a)(hb:FmD N d b):FmD N (d+1) (.mk 1 wd 0 [a,b]):=by
 refine⟨fun δ hδ=>.con hw (hs1.elim (fun e=>.inr (.inl ⟨e,rfl⟩)) (fun e=>.inr (.inr e))) (by omega) (fun p hp=>?_),?_⟩
 ·simp at hp;rcases hp with rfl|rfl
  ·exact ha.1 _ (by omega)
  ·exact hb.1 _ (by omega)
 ·have e1:=ha.2;have e2:=hb.2;rw[qa0 _ _ _ _ (by omega),qH4];omega
theorem MF.fm{d:Nat}{nd:Nd}(h:MF N d nd):FmD N d nd:=by
 induction h with
 | two hw ha hb=>exact jt3 _ (by rcases hw with e|e|e<;>rw[e]<;>rfl) (by rw[<- Z4];rcases hw with e|e|e<;>rw[e]<;>decide) ha hb
 | le hw ha hb h1 h2=>exact jt4 _ (by rw[hw];rfl) (by rw[<- Z4,hw];decide) ha hb h1 h2
 | not hw _ ih=>exact jp2 (by rw[hw];rfl) (by rw[<- Z4,hw];decide) ih
 | con hw _ _ iha ihb=>
  have hs:∀ {wd:ByteArray},(wd.toList=zl0\/wd.toList=wOr\/wd.toList=[61,62]\/wd.toList=zo0)->wd.size<=3:=fun hw=>by rw[<- Z4];rcases hw with e|e|e|e<;>rw[e]<;>decide
  rcases hw with e|e|e|e
  ·exact qa2 (s:=2) (by rw[e];rfl) (.inr rfl) (hs (.inl e)) iha ihb
  ·exact qa2 (s:=2) (by rw[e];rfl) (.inr rfl) (hs (.inr (.inl e))) iha ihb
  ·exact qa2 (s:=1) (by rw[e];rfl) (.inl rfl) (hs (.inr (.inr (.inl e)))) iha ihb
  ·exact qa2 (s:=1) (by rw[e];rfl) (.inl rfl) (hs (.inr (.inr (.inr e)))) iha ihb
theorem RW.step{w5 w6:World}{k5:Nat}(h:RW w rb ga n cap k g)(h5:RW w5 rb ga n cap k5 g)(hx:q9 (fun i=>i=rb) w w6)(hb:w6.heap[rb]?=w5.heap[rb]?):RW w6 rb ga n cap k5 g :=
 ⟨hb.trans h5.blk,h5.few,h.gaps.ext hx h.off,h.off⟩
theorem jp3{R:Nd->Prop}{w5:World}{tb q t u k5:Nat}{wd:ByteArray}{nd nd2:Nd}{v z:Int}(h:RW w rb ga n cap k g)(hx:q9 (fun i=>i=rb) w w5)(htb:w.heap.size<=tb)
  (hb:w5.heap[tb]?=some (.cells #[.string wd,.slice (some ⟨q,0,none⟩) 2 2,.int .i64 z] 72)) (hq:w5.heap[q]?=some (.cells #[.pointer (some ⟨t,0,none⟩),.pointer (some ⟨u,0,none⟩)] 31)) (hqt:tb<q)
  (kt:KT w5 (fun i=>tb<i) t nd) (ku:KT w5 (fun i=>tb<i) u nd2) (h5:RW w5 rb ga n cap k5 g) (hv1:-3<=v) (hv2:v<=3)
  (hw:(zH0 wd.toList=true/\R (.mk 2 wd 0 [nd,nd2]))\/(wd.toList=wLe/\R (.mk 2 wd 0 [nd,nd2,.mk 5 ByteArray.empty v []]))):
  Mk w rb ga n cap g R (.returned (.pointer (some ⟨tb,0,none⟩))) (w5.setCell ⟨tb,2,none⟩ (.int .i64 v)):=by
 have hrb:rb<w.heap.size:=z8 h.blk;have hx6:q9 (fun i=>i=tb) w5 (w5.setCell ⟨tb,2,none⟩ (.int .i64 v)):=(q9.refl (fun i=>i=tb) w5).setCell (p:=⟨tb,2,none⟩) (fun _=>rfl) _;have hxw:q9 (fun i=>i=rb) w (w5.setCell ⟨tb,2,none⟩ (.int .i64 v)):=hx.setCell (p:=⟨tb,2,none⟩) (fun e=>absurd (show tb<w.heap.size from e) (by omega)) _;have hb6:=Y4 hb 2 (.int .i64 v);have hq6:=(hx6.block q (z8 hq) (by omega)).trans hq;have kt6:=(kt.ext hx6 (fun i _ e f=>by omega)).mono (D':=fun i=>w.heap.size<=i) (fun i _ e=>by omega);have ku6:=(ku.ext hx6 (fun i _ e f=>by omega)).mono (D':=fun i=>w.heap.size<=i) (fun i _ e=>by omega);have hrw:=h.step h5 hxw (hx6.block rb (z8 h5.blk) (by omega));rcases hw with⟨h1,h2⟩|⟨h1,h2⟩
 ·exact⟨tb,_,k5,rfl,qs4 hb6 hq6 htb (by omega) (by omega) h1 kt6 ku6,h2,hrw,hxw⟩
 ·exact⟨tb,_,k5,rfl,js9 hb6 hq6 htb (by omega) h1 (by omega) (by omega) kt6 ku6,h2,hrw,hxw⟩
theorem zH9{w3:World}{t m:Nat}{cs:Array Value}{wd:ByteArray}{z:Int}(hb:w3.heap[t]?=some (.cells #[.string wd,.slice none 0 0,.int .i64 z] 72)):
  ((w3.setCell ⟨t,1,none⟩ (.slice (some ⟨w3.heap.size,0,none⟩) m m)).alloc (.cells cs 31)).heap[t]?=some (.cells #[.string wd,.slice (some ⟨w3.heap.size,0,none⟩) m m,.int .i64 z] 72) /\
  ((w3.setCell ⟨t,1,none⟩ (.slice (some ⟨w3.heap.size,0,none⟩) m m)).alloc (.cells cs 31)).heap[w3.heap.size]?=some (.cells cs 31) /\
  q9 (fun i=>i=t) w3 ((w3.setCell ⟨t,1,none⟩ (.slice (some ⟨w3.heap.size,0,none⟩) m m)).alloc (.cells cs 31)):=by
 have hx:q9 (fun i=>i=t) w3 (w3.setCell ⟨t,1,none⟩ (.slice (some ⟨w3.heap.size,0,none⟩) m m)):=(q9.refl (fun i=>i=t) w3).setCell (p:=⟨t,1,none⟩) (fun _=>rfl) _;have h1:=Y4 hb 1 (.slice (some ⟨w3.heap.size,0,none⟩) m m);have hsz:(w3.setCell ⟨t,1,none⟩ (.slice (some ⟨w3.heap.size,0,none⟩) m m)).heap.size=w3.heap.size:=by simp[World.setCell]
 refine⟨?_,?_,hx.alloc _⟩
 ·exact(((q9.refl (fun _=>False) _).alloc _).block _ (z8 h1) (fun f=>f)).trans h1
 ·have:=heap_alloc_new (w3.setCell ⟨t,1,none⟩ (.slice (some ⟨w3.heap.size,0,none⟩) m m)) (.cells cs 31);rw[hsz] at this;exact this
theorem RW.parts{w3:World}{t m k3:Nat}{cs:Array Value}{wd:ByteArray}{z:Int}(h:RW w rb ga n cap k g)(h3:RW w3 rb ga n cap k3 g)(hx:q9 (fun i=>i=rb) w w3)(ht:w.heap.size<=t)(hb:w3.heap[t]?=some (.cells #[.string wd,.slice none 0 0,.int .i64 z] 72)):
  RW ((w3.setCell ⟨t,1,none⟩ (.slice (some ⟨w3.heap.size,0,none⟩) m m)).alloc (.cells cs 31)) rb ga n cap k3 g/\q9 (fun i=>i=rb) w ((w3.setCell ⟨t,1,none⟩ (.slice (some ⟨w3.heap.size,0,none⟩) m m)).alloc (.cells cs 31)):=by
 obtain⟨_,_,h4⟩:=zH9 (m:=m) (cs:=cs) hb;have hrb:rb<w.heap.size:=z8 h.blk;have hx4:q9 (fun i=>i=rb) w ((w3.setCell ⟨t,1,none⟩ (.slice (some ⟨w3.heap.size,0,none⟩) m m)).alloc (.cells cs 31)):=hx.trans' h4 (fun i hi e=>by omega);exact⟨h.step h3 hx4 (h4.block rb (z8 h3.blk) (by omega)),hx4⟩
def qS6(N:List Nm)(rb:Nat)(ga:Option Addr)(n cap:Nat)(g:Nat->Int)(d:Nat):Prop :=
 ∀ (w:World) (k:Nat),RW w rb ga n cap k g->Calls prog 14 #[.pointer (some ⟨rb,0,none⟩),.int .i64 d] w (Mk w rb ga n cap g (MF N d))
def qs5:Obj:=.cells #[.string ⟨#[61]⟩,.string ⟨#[60]⟩,.string ⟨#[60,61]⟩,.string ⟨#[108,101]⟩,.string ⟨#[110,111,116]⟩,.string ⟨#[97,110,100]⟩,.string ⟨#[111,114]⟩,.string ⟨#[61,62]⟩,.string ⟨#[105,102,102]⟩,.string ⟨#[61]⟩] 70
theorem zV0(hN:zZ9 N)(hn:n<=maxLen)(d:Nat)(hd:d<=20)(ih:∀ d',d=d'+1->qS6 N rb ga n cap g d'):qS6 N rb ga n cap g d:=by
 intro w k h;have H0:=q8 h;have hrb:rb<w.heap.size:=z8 h.blk;have hx0:q9 (fun _=>False) w (w.alloc qs5):=(q9.refl (fun _=>False) w).alloc _;have kw:=heap_alloc_new w qs5;have HC:=q8 (zi8 (h.ext hx0 (fun f=>f) (fun _ _ _ _ f=>f)) hn 10 (by omega));have HN:=q8 hN;have HT:=q8 (zE0 (rb:=rb) (ga:=ga) (cap:=cap) (g:=g) hN hn 1 (by omega));have HQ:=q8 hn;have HI:=q8 ih;have HX0:=q8 hx0;clear h hN hn hx0 ih;go_enter func14,ntmps14;go_wp2_with fail;refine HC.out.mono ?_;rintro e w1 ⟨v,k1,rfl,h0,h10,h1,hx1⟩;have kw1:=(hx1.block _ (z8 kw) (by omega)).trans kw;have HX1:Hid (q9 (fun i=>i=rb) w w1):=(HX0.out.mono (fun _ _ f=>f.elim)).trans hx1;have H1:=q8 h1;have hs1:w.heap.size<w1.heap.size:=z8 kw1;unfold qs5 at kw1;have c0:=z6 kw1 0;have c1:=z6 kw1 1;have c2:=z6 kw1 2;have c3:=z6 kw1 3;have c4:=z6 kw1 4;have c5:=z6 kw1 5;have c6:=z6 kw1 6;have c7:=z6 kw1 7;have c8:=z6 kw1 8;have c9:=z6 kw1 9;clear h1 hx1 HC kw kw1 HX0;have hv:((d=0/\(v=0\/v=1\/v=2\/v=3\/v=4\/v=5\/v=6\/v=7\/v=8\/v=9))\/(((d:Int)==0)=false/\(v=0\/v=1\/v=2\/v=3\/v=9)))\/(∃ d':Nat,d=d'+1)/\(v=4\/(v=5\/v=6\/v=7\/v=8)):=by
  rw[beq_eq_false_iff_ne];by_cases h0:d=0
  ·exact .inl (.inl ⟨h0,by omega⟩)
  ·by_cases h4:v=0\/v=1\/v=2\/v=3\/v=9
   ·exact .inl (.inr ⟨by omega,h4⟩)
   ·exact .inr ⟨⟨d-1,by omega⟩,by omega⟩
 clear h0 h10;rcases hv with hv|⟨⟨d',hd'⟩,hv⟩
 ·rcases hv with⟨rfl,rfl|rfl|rfl|rfl|rfl|rfl|rfl|rfl|rfl|rfl⟩|⟨hdb,rfl|rfl|rfl|rfl|rfl⟩
  all_goals
   go_wp2_with fail;refine(HT.out _ k1 (H1.out.ext ((q9.refl (fun _=>False) w1).alloc _) (fun f=>f) (fun _ _ _ _ f=>f))).mono ?_;rintro e w2 ⟨ta,na,k2,rfl,kta,hra,h2,hx2⟩;have kb2:=(hx2.block w1.heap.size (by simp) (by omega)).trans (heap_alloc_new w1 _);have hsz2:=hx2.size;rw[y8] at hsz2;have KTA:Hid (KT w2 (fun i=>w1.heap.size<i) ta na):=kta.mono (fun i _ e=>by rw[y8] at e;exact e);have HRA:=q8 hra;have HX2:Hid (q9 (fun i=>i=rb) w w2):=(HX1.out.alloc _).trans hx2;have KB2:=q8 kb2;have HC3:=q8 (HT.out w2 k2 h2);clear kta hra h2 hx2 c0 c1 c2 c3 c4 c5 c6 c7 c8 c9 kb2;go_wp2_with fail;refine HC3.out.mono ?_;rintro e w3 ⟨tb,nb,k3,rfl,ktb,hrb3,h3,hx3⟩;have kb3:=(hx3.block _ (z8 KB2.out) (by omega)).trans KB2.out;have b0:=z6 kb3 1;have b1:=Q8 kb3 1;have hs3:=z8 kb3;have KB3:=q8 kb3;have KTB:Hid (KT w3 (fun i=>w1.heap.size<i) tb nb):=ktb.mono (fun i _ e=>by omega);have KTA3:Hid (KT w3 (fun i=>w1.heap.size<i) ta na):=KTA.out.ext hx3 (fun i _ e f=>by omega);have HRB:=q8 hrb3;have H3:=q8 h3;have HX3:Hid (q9 (fun i=>i=rb) w w3):=HX2.out.trans hx3;clear ktb hrb3 h3 hx3 kb3 HC3;go_wp2_with fail;obtain⟨p1,p2,p3⟩:=zH9 (m:=2) (cs:=#[.pointer (some ⟨ta,0,none⟩),.pointer (some ⟨tb,0,none⟩)]) KB3.out;obtain⟨r4,hx4⟩:=H0.out.parts (m:=2) (cs:=#[.pointer (some ⟨ta,0,none⟩),.pointer (some ⟨tb,0,none⟩)]) H3.out HX3.out (Nat.le_of_lt hs1) KB3.out;refine(zi8 r4 HQ.out 7 (by omega)).mono ?_;rintro e w5 ⟨v,k5,rfl,hv0,hv7,h5,hx5⟩;have kb5:=(hx5.block _ (z8 p1) (by omega)).trans p1;have kq5:=(hx5.block _ (z8 p2) (by omega)).trans p2;have KTA5:Hid (KT w5 (fun i=>w1.heap.size<i) ta na):=(KTA3.out.ext p3 (fun i _ e f=>by omega)).ext hx5 (fun i _ e f=>by omega);have KTB5:Hid (KT w5 (fun i=>w1.heap.size<i) tb nb):=(KTB.out.ext p3 (fun i _ e f=>by omega)).ext hx5 (fun i _ e f=>by omega)
   have HX5:Hid (q9 (fun i=>i=rb) w w5):=hx4.trans hx5;have H5:=q8 h5;have KB5:=q8 kb5;have KQ5:=q8 kq5;have d0:=z6 kb5 2;have d1:=Q8 kb5 2;clear p1 p2 p3 r4 hx4 h5 hx5 kb5 kq5 b0 b1;go_wp2_with fail;go_ret;refine jp3 H0.out HX5.out (Nat.le_of_lt hs1) KB5.out KQ5.out hs3 KTA5.out KTB5.out H5.out (by omega) (by omega) ?_
   first
    | exact .inl ⟨by rw[ByteArray.toList_eq];rfl,.two (by rw[ByteArray.toList_eq];decide) HRA.out HRB.out⟩
    | exact .inr ⟨by rw[ByteArray.toList_eq];rfl,.le (by rw[ByteArray.toList_eq];rfl) HRA.out HRB.out (by omega) (by omega)⟩
 ·have hdb:((d:Int)==0)=false:=by rw[beq_eq_false_iff_ne];omega
  have hd1:(d:Int)-1=(d':Int):=by omega
  have hd3:IntKind.i64.wrap (d':Int)=(d':Int):=by rw[IntKind.wrap_i64];omega
  have HF:=q8 (HI.out d' hd');rcases hv with rfl|hv
  ·go_wp2_with fail;refine(HF.out _ k1 (H1.out.ext ((q9.refl (fun _=>False) w1).alloc _) (fun f=>f) (fun _ _ _ _ f=>f))).mono ?_;rintro e w2 ⟨ta,na,k2,rfl,kta,hra,h2,hx2⟩;have kb2:=(hx2.block w1.heap.size (by simp) (by omega)).trans (heap_alloc_new w1 _);have hs2:=z8 kb2;have KTA:Hid (KT w2 (fun i=>w1.heap.size<i) ta na):=kta.mono (fun i _ e=>by rw[y8] at e;exact e);have HRA:=q8 hra;have H2:=q8 h2;have HX2:Hid (q9 (fun i=>i=rb) w w2):=(HX1.out.alloc _).trans hx2;have b0:=z6 kb2 1;have b1:=Q8 kb2 1;have KB2:=q8 kb2;clear kta hra h2 hx2 c0 c1 c2 c3 c4 c5 c6 c7 c8 c9 kb2;go_wp2_with fail;go_ret;obtain⟨p1,p2,p3⟩:=zH9 (m:=1) (cs:=#[.pointer (some ⟨ta,0,none⟩)]) KB2.out;obtain⟨r4,hx4⟩:=H0.out.parts (m:=1) (cs:=#[.pointer (some ⟨ta,0,none⟩)]) H2.out HX2.out (Nat.le_of_lt hs1) KB2.out;subst hd';exact⟨_,_,k2,rfl,qS5 p1 p2 (Nat.le_of_lt hs1) (by omega) (by omega) (by rw[ByteArray.toList_eq];rfl) ((KTA.out.ext p3 (fun i _ e f=>by omega)).mono (fun i _ e=>by omega)),.not (by rw[ByteArray.toList_eq];rfl) HRA.out,r4,hx4⟩
  ·rcases hv with rfl|rfl|rfl|rfl
   all_goals
    go_wp2_with fail;refine(HF.out _ k1 (H1.out.ext ((q9.refl (fun _=>False) w1).alloc _) (fun f=>f) (fun _ _ _ _ f=>f))).mono ?_;rintro e w2 ⟨ta,na,k2,rfl,kta,hra,h2,hx2⟩;have kb2:=(hx2.block w1.heap.size (by simp) (by omega)).trans (heap_alloc_new w1 _);have hs2:=z8 kb2;have KTA:Hid (KT w2 (fun i=>w1.heap.size<i) ta na):=kta.mono (fun i _ e=>by rw[y8] at e;exact e);have HRA:=q8 hra;have HX2:Hid (q9 (fun i=>i=rb) w w2):=(HX1.out.alloc _).trans hx2;have KB2:=q8 kb2;have HC3:=q8 (HF.out w2 k2 h2);clear kta hra h2 hx2 c0 c1 c2 c3 c4 c5 c6 c7 c8 c9 kb2;go_wp2_with fail;refine HC3.out.mono ?_;rintro e w3 ⟨tb,nb,k3,rfl,ktb,hrb3,h3,hx3⟩;have kb3:=(hx3.block _ (z8 KB2.out) (by omega)).trans KB2.out;have b0:=z6 kb3 1;have b1:=Q8 kb3 1;have hs3:=z8 kb3;have KB3:=q8 kb3;have KTB:Hid (KT w3 (fun i=>w1.heap.size<i) tb nb):=ktb.mono (fun i _ e=>by omega);have KTA3:Hid (KT w3 (fun i=>w1.heap.size<i) ta na):=KTA.out.ext hx3 (fun i _ e f=>by omega);have HRB:=q8 hrb3;have H3:=q8 h3;have HX3:Hid (q9 (fun i=>i=rb) w w3):=HX2.out.trans hx3;clear ktb hrb3 h3 hx3 kb3 HC3;go_wp2_with fail;go_ret;obtain⟨p1,p2,p3⟩:=zH9 (m:=2) (cs:=#[.pointer (some ⟨ta,0,none⟩),.pointer (some ⟨tb,0,none⟩)]) KB3.out;obtain⟨r4,hx4⟩:=H0.out.parts (m:=2) (cs:=#[.pointer (some ⟨ta,0,none⟩),.pointer (some ⟨tb,0,none⟩)]) H3.out HX3.out (Nat.le_of_lt hs1) KB3.out;subst hd';refine⟨_,_,k3,rfl,qs4 (kk:=1) p1 p2 (Nat.le_of_lt hs1) (by omega) (by omega) (by rw[ByteArray.toList_eq];rfl) ((KTA3.out.ext p3 (fun i _ e f=>by omega)).mono (fun i _ e=>by omega)) ((KTB.out.ext p3 (fun i _ e f=>by omega)).mono (fun i _ e=>by omega)),.con (by rw[ByteArray.toList_eq];decide) HRA.out HRB.out,r4,hx4⟩
theorem zV1(hN:zZ9 N)(hn:n<=maxLen):∀ d:Nat,d<=20->qS6 N rb ga n cap g d
 | 0,h=>zV0 hN hn 0 h (fun d' e=>by omega)
 | d+1,h=>zV0 hN hn (d+1) h (fun d' e=>by obtain rfl:d=d':=(by omega);exact zV1 hN hn d (by omega))
end
section
variable{w w':World}{gb sb:Nat}{N:List Nm}{I:Itp}
structure MV(w:World)(gb sb:Nat)(N:List Nm)(I:Itp):Prop where
 blk:w.heap[gb]?=some (.cells #[.pointer (some ⟨sb,0,none⟩),.bool false] 53)
 val:qS9 w sb N I
 few:zA8 N
 sm:∀ t,Y5 t->Sm (Y1 I t)
theorem MV.ext(h:MV w gb sb N I)(hx:q9 (fun _=>False) w w'):MV w' gb sb N I:=⟨(hx.block _ (z8 h.blk) (fun f=>f)).trans h.blk,h.val.ext hx,h.few,h.sm⟩
theorem zn7(h:MV w gb sb N I){D:Nat->Prop}{t:Nat}{nd:Nd}(kt:KT w D t nd)(hr:RT N 0 nd)(hl:(j9 nd).length<=600):
  Calls prog 50 #[.pointer (some ⟨gb,0,none⟩),.pointer (some ⟨t,0,none⟩)] w fun e w'=>e=.returned (.int .i64 (Y1 I nd))/\q9 (fun _=>False) w w':=by
 have c0:=z6 h.blk 0;have H:=q8 h;have HR:=q8 hr;have HC1:=q8 (zN0 kt w.drew ((q9.refl (fun _=>False) w).drew) (by omega));clear h kt hr;go_enter func50,ntmps50;go_wp2_with fail
 go_region_law (go_simp;go_wp2_with (first|(go_at_call 16;refine HC1.out.mono ?_;rintro e w1 ⟨s,rfl,hs,hx1⟩;have hsz:s.size<=600:=(by rw[<- Z4,hs];exact hl);have HX1:Hid (q9 (fun _=>False) w w1):=((q9.refl (fun _=>False) w).drew).trans hx1;have c1:=z6 ((HX1.out.block _ (z8 H.out.blk) (fun f=>f)).trans H.out.blk) 0;have HS:=q8 hs;clear hs hx1)|(go_at_call 77;refine(H.out.val w1 s nd HX1.out HS.out hsz HR.out).mono ?_;rintro e w2 ⟨rfl,hx2⟩;have HX2:=q8 (HX1.out.trans hx2);clear hx2)))
 all_goals
  go_wp2_with fail;go_ret;exact⟨rfl,HX2.out⟩
theorem za6{pv:Value}{ts:List Nat}{m:Nat}(how:w.ownsRow 0 31 1 pv m (ts.map fun a=>.pointer (some ⟨a,0,none⟩)))(hm:0<m):
  ∃ q cap,pv=.slice (some ⟨q,0,none⟩) m cap/\q<w.heap.size/\∀ i a,ts[i]?=some a->w.cell? ⟨q,i,none⟩=some (.pointer (some ⟨a,0,none⟩)):=by
 rcases how.2 with⟨_,e⟩|⟨q,cap,cur,hv,_,hh,_⟩
 ·omega
 ·subst hv;refine⟨q,cap,rfl,z8 hh,fun i a ha=>?_⟩;have hl:=how.1;rw[List.length_map] at hl;have hi:=(List.getElem?_eq_some_iff.1 ha).1;have:=how.cellAt i (by omega);rw[List.getElem?_map,ha] at this;exact this
theorem KT.node_inv{D:Nat->Prop}{t:Nat}{kk:Int}{wd:ByteArray}{ps:List Nd}(kt:KT w D t (.mk kk wd 0 ps))(hne:ps≠[])(hw:¬wd.toList=wLe):
  ∃ (pv:Value) (by_:Int) (ts:List Nat),w.heap[t]?=some (.cells #[.string wd,pv,.int .i64 by_] 72)/\w.ownsRow 0 31 1 pv ps.length (ts.map fun a=>.pointer (some ⟨a,0,none⟩))/\ts.length=ps.length/\zH0 wd.toList=true/\∀ (i:Nat) (a:Nat) (p:Nd),ts[i]?=some a->ps[i]?=some p->KT w D a p:=by
 generalize e:Nd.mk kk wd 0 ps=x at kt
 cases kt with
 | num=>simp at e;exact absurd e.2.2.2 hne
 | name=>simp at e;exact absurd e.2.2 hne
 | node hb hd hk hkw hne' how hD hn hp=>simp only[Nd.mk.injEq] at e;obtain⟨rfl,rfl,_,rfl⟩:=e;exact⟨_,_,_,hb,how,hn,hkw,hp⟩
 | le hb hd hw'=>simp only[Nd.mk.injEq] at e;obtain⟨_,rfl,_,_⟩:=e;exact absurd hw' hw
theorem KT.le_inv{D:Nat->Prop}{t:Nat}{wd:ByteArray}{v:Int}{ps:List Nd}(kt:KT w D t (.mk 2 wd 0 (ps++[.mk 5 ByteArray.empty v []])))(hw:wd.toList=wLe):
  ∃ (pv:Value) (ts:List Nat),w.heap[t]?=some (.cells #[.string wd,pv,.int .i64 v] 72)/\w.ownsRow 0 31 1 pv ps.length (ts.map fun a=>.pointer (some ⟨a,0,none⟩))/\ts.length=ps.length/\∀ (i:Nat) (a:Nat) (p:Nd),ts[i]?=some a->ps[i]?=some p->KT w D a p:=by
 generalize e:Nd.mk 2 wd 0 (ps++[.mk 5 ByteArray.empty v []])=x at kt
 cases kt with
 | num=>simp at e
 | name=>simp at e
 | node hb hd hk hkw hne' how hD hn hp=>simp only[Nd.mk.injEq] at e;obtain⟨_,rfl,_,_⟩:=e;rw[hw] at hkw;exact absurd hkw (by decide)
 | le hb hd hw' h1 h2 hne how hD hn hp=>simp only[Nd.mk.injEq] at e;obtain⟨_,rfl,_,e⟩:=e;obtain⟨rfl,e2⟩:=List.append_inj' e rfl;simp at e2;subst e2;exact⟨_,_,hb,how,hn,hp⟩
end
section
variable{w w':World}{gb sb:Nat}{N:List Nm}{I:Itp}
theorem ze0{kk:Int}{wd:ByteArray}{v:Int}{ps:List Nd}{p:Nd}(h:p∈ps):(j9 p).length<=(j9 (.mk kk wd v ps)).length:=by obtain⟨i,hi⟩:=List.getElem?_of_mem h;have h1:=qi6 hi;rw[j9.eq_1 kk,if_pos (.inr (.inr (List.ne_nil_of_mem h)))];simp;omega
theorem zN2(h:MV w gb sb N I){D:Nat->Prop}{t q cap ta tb:Nat}{wd:ByteArray}{by_:Int}{a b:Nd}(hb:w.heap[t]?=some (.cells #[.string wd,.slice (some ⟨q,0,none⟩) 2 cap,.int .i64 by_] 72))(z0:w.cell? ⟨q,0,none⟩=some (.pointer (some ⟨ta,0,none⟩)))(z1:w.cell? ⟨q,1,none⟩=some (.pointer (some ⟨tb,0,none⟩)))(hq:q<w.heap.size)
    (ka:KT w D ta a) (kb:KT w D tb b) (ra:RT N 0 a) (rb:RT N 0 b) (la:(j9 a).length<=600) (lb:(j9 b).length<=600) (hw:wd.toList=[61]\/wd.toList=[60]\/wd.toList=[60,61]\/(wd.toList=wLe /\ -1000<=by_/\by_<=1000)):
    Calls prog 29 #[.pointer (some ⟨gb,0,none⟩),.pointer (some ⟨t,0,none⟩)] w fun e w'=>e=.returned (.bool (zi2 wd.toList (Y1 I a) (Y1 I b) by_))/\q9 (fun _=>False) w w':=by
  have c0:=z6 hb 0;have c1:=z6 hb 1;have KB:=q8 hb;have H:=q8 h;have KAB:=q8 kb;have RB:=q8 rb;have sa:=h.sm a (ra.ok h.few);have sb':=h.sm b (rb.ok h.few);unfold Sm at sa sb';have HC1:=q8 (zn7 h ka ra la);have Z1:=q8 z1;have HW:=q8 hw;have hw1:((wd.toList==[61])=true\/(wd.toList==[61])=false/\((wd.toList==[60])=true\/(wd.toList==[60])=false/\((wd.toList==[60,61])=true\/(wd.toList==[60,61])=false/\(wd.toList==[108,101])=true))):=by rcases hw with e|e|e|⟨e,_⟩<;>rw[e]<;>decide
  clear h ka kb ra rb hb hw z1;obtain⟨x,hx⟩:∃ x,Y1 I a=x:=⟨_,rfl⟩;obtain⟨y,hy⟩:∃ y,Y1 I b=y:=⟨_,rfl⟩;rw[hx] at HC1 sa;rw[hy] at sb';have HY:=q8 hy;have HXA:=q8 hx;clear hx hy;rcases hw1 with e1|⟨e1,e2|⟨e2,e3|⟨e3,e4⟩⟩⟩
  all_goals
    go_enter func29,ntmps29;go_wp2_with fail;refine HC1.out.mono ?_;rintro e w1 ⟨rfl,hx1⟩;have k1:=(hx1.block _ (z8 KB.out) (fun f=>f)).trans KB.out;have c0':=z6 k1 0;have c1':=z6 k1 1;have z1':=(hx1.cell (p:=⟨q,1,none⟩) hq (fun f=>f)).trans Z1.out;have HX1:=q8 hx1;have hc2:=zn7 (H.out.ext hx1) (KAB.out.ext hx1 (fun _ _ _ f=>f)) RB.out lb;rw[HY.out] at hc2;have HC2:=q8 hc2;clear k1 hx1 c0 c1 z0 hc2;go_wp2_with fail;refine HC2.out.mono ?_;rintro e w2 ⟨rfl,hx2⟩;have hx:=HX1.out.trans hx2;have k2:=(hx.block _ (z8 KB.out) (fun f=>f)).trans KB.out;have c0:=z6 k2 0;have c2:=z6 k2 2;have HX:=q8 hx;clear hx2 hx k2 c0' c1' z1';go_wp2_with fail;go_ret;refine⟨?_,HX.out⟩;rw[HXA.out,HY.out]
    first
      | (rw[eq_of_beq e1,zi2,if_pos rfl];rfl)
      | (rw[eq_of_beq e2,zi2,if_neg (by decide),if_pos rfl];rfl)
      | (rw[eq_of_beq e3,zi2,if_neg (by decide),if_neg (by decide),if_pos rfl];rfl)
      | (rw[eq_of_beq e4,zi2,if_neg (by decide),if_neg (by decide),if_neg (by decide)]
         have hbb:-1000<=by_/\by_<=1000:=by
           rcases HW.out with e|e|e|⟨_,e⟩
           · rw[e] at e4;cases e4
           · rw[e] at e4;cases e4
           · rw[e] at e4;cases e4
           · exact e
         have hwr:wrap64 (y+by_)=y+by_:=by unfold wrap64;omega
         rw[hwr]
         rfl)
def HdC(gb sb:Nat)(N:List Nm)(I:Itp)(nd:Nd):Prop:=∀ (w:World) (D:Nat->Prop) (t:Nat),MV w gb sb N I->KT w D t nd->(j9 nd).length<=600 ->
 Calls prog 29 #[.pointer (some ⟨gb,0,none⟩),.pointer (some ⟨t,0,none⟩)] w fun e w'=>e=.returned (.bool (ftr (zd7 (Y1 I)) nd))/\q9 (fun _=>False) w w'
theorem qI1(h:MV w gb sb N I){D:Nat->Prop}{t q cap ta:Nat}{wd:ByteArray}{by_:Int}{a:Nd}(hb:w.heap[t]?=some (.cells #[.string wd,.slice (some ⟨q,0,none⟩) 1 cap,.int .i64 by_] 72))(z0:w.cell? ⟨q,0,none⟩=some (.pointer (some ⟨ta,0,none⟩)))
  (ka:KT w D ta a) (la:(j9 a).length<=600) (hw:wd.toList=zk0) (ia:HdC gb sb N I a):
  Calls prog 29 #[.pointer (some ⟨gb,0,none⟩),.pointer (some ⟨t,0,none⟩)] w fun e w'=>e=.returned (.bool !(ftr (zd7 (Y1 I)) a))/\q9 (fun _=>False) w w':=by
 have c0:=z6 hb 0;have c1:=z6 hb 1;have HC1:=q8 (ia w D ta h ka la);have e1:(wd.toList==[61])=false:=by rw[hw];rfl
 have e2:(wd.toList==[60])=false:=by rw[hw];rfl
 have e3:(wd.toList==[60,61])=false:=by rw[hw];rfl
 have e4:(wd.toList==[108,101])=false:=by rw[hw];rfl
 have e5:(wd.toList==[110,111,116])=true:=by rw[hw];rfl
 clear h ka hb hw ia;go_enter func29,ntmps29;go_wp2_with fail;refine HC1.out.mono ?_;rintro e w1 ⟨rfl,hx1⟩;have HX1:=q8 hx1;clear hx1 HC1;go_wp2_with fail;go_ret;exact⟨rfl,HX1.out⟩
theorem qI2(h:MV w gb sb N I){D:Nat->Prop}{t q cap ta tb:Nat}{wd:ByteArray}{by_:Int}{a b:Nd}(hb:w.heap[t]?=some (.cells #[.string wd,.slice (some ⟨q,0,none⟩) 2 cap,.int .i64 by_] 72))(z0:w.cell? ⟨q,0,none⟩=some (.pointer (some ⟨ta,0,none⟩)))(z1:w.cell? ⟨q,1,none⟩=some (.pointer (some ⟨tb,0,none⟩)))(hq:q<w.heap.size)
  (ka:KT w D ta a) (kb:KT w D tb b) (la:(j9 a).length<=600) (lb:(j9 b).length<=600) (hw:wd.toList=zl0\/wd.toList=wOr\/wd.toList=[61,62]\/wd.toList=zo0) (ia:HdC gb sb N I a) (ib:HdC gb sb N I b):
  Calls prog 29 #[.pointer (some ⟨gb,0,none⟩),.pointer (some ⟨t,0,none⟩)] w fun e w'=>e=.returned (.bool (con wd.toList [ftr (zd7 (Y1 I)) a,ftr (zd7 (Y1 I)) b]))/\q9 (fun _=>False) w w':=by
 have c0:=z6 hb 0;have c1:=z6 hb 1;have KB:=q8 hb;have H:=q8 h;have KAB:=q8 kb;have HC1:=q8 (ia w D ta h ka la);have IB:=q8 ib;have Z1:=q8 z1;have e1:(wd.toList==[61])=false:=by rcases hw with e|e|e|e<;>rw[e]<;>rfl
 have e2:(wd.toList==[60])=false:=by rcases hw with e|e|e|e<;>rw[e]<;>rfl
 have e3:(wd.toList==[60,61])=false:=by rcases hw with e|e|e|e<;>rw[e]<;>rfl
 have e4:(wd.toList==[108,101])=false:=by rcases hw with e|e|e|e<;>rw[e]<;>rfl
 have e5:(wd.toList==[110,111,116])=false:=by rcases hw with e|e|e|e<;>rw[e]<;>rfl
 have hw1:((wd.toList==[97,110,100])=true\/(wd.toList==[97,110,100])=false/\((wd.toList==[111,114])=true\/(wd.toList==[111,114])=false/\((wd.toList==[61,62])=true\/(wd.toList==[61,62])=false/\(wd.toList==[105,102,102])=true))):=by rcases hw with e|e|e|e<;>rw[e]<;>decide
 clear h ka kb hb hw z1 ia ib;obtain⟨x,hx⟩:∃ x,ftr (zd7 (Y1 I)) a=x:=⟨_,rfl⟩;obtain⟨y,hy⟩:∃ y,ftr (zd7 (Y1 I)) b=y:=⟨_,rfl⟩;rw[hx] at HC1;have HY:=q8 hy;have HXA:=q8 hx;clear hx hy;go_enter func29,ntmps29;go_wp2_with fail;refine HC1.out.mono ?_;rintro e w1 ⟨rfl,hx1⟩;have k1:=(hx1.block _ (z8 KB.out) (fun f=>f)).trans KB.out;have c0':=z6 k1 0;have c1':=z6 k1 1;have z1':=(hx1.cell (p:=⟨q,1,none⟩) hq (fun f=>f)).trans Z1.out;have HX1:=q8 hx1;have hc2:=IB.out w1 D tb (H.out.ext hx1) (KAB.out.ext hx1 (fun _ _ _ f=>f)) lb;rw[HY.out] at hc2;have HC2:=q8 hc2;clear k1 hx1 c0 c1 z0 hc2;go_wp2_with fail;refine HC2.out.mono ?_;rintro e w2 ⟨rfl,hx2⟩;have hx:=HX1.out.trans hx2;have k2:=(hx.block _ (z8 KB.out) (fun f=>f)).trans KB.out;have c0:=z6 k2 0;have HX:=q8 hx;clear hx2 hx k2 c0' c1' z1';rcases hw1 with f1|⟨f1,f2|⟨f2,f3|⟨f3,f4⟩⟩⟩
 ·cases x<;>cases y
  all_goals
   go_wp2_with fail;go_ret;exact⟨by rw[HXA.out,HY.out,eq_of_beq f1];rfl,HX.out⟩
 ·cases x<;>cases y
  all_goals
   go_wp2_with fail;go_ret;exact⟨by rw[HXA.out,HY.out,eq_of_beq f2];rfl,HX.out⟩
 ·cases x<;>cases y
  all_goals
   go_wp2_with fail;go_ret;exact⟨by rw[HXA.out,HY.out,eq_of_beq f3];rfl,HX.out⟩
 ·cases x<;>cases y
  all_goals
   go_wp2_with fail;go_ret;exact⟨by rw[HXA.out,HY.out,eq_of_beq f4];rfl,HX.out⟩
theorem qI3{d:Nat}{nd:Nd}(hm:MF N d nd):HdC gb sb N I nd:=by
 induction hm with
 | @two d wd a b hw ha hb=>
  intro w D t h kt hl;obtain⟨pv,by_,ts,hb',how,hn,_,hp⟩:=kt.node_inv (by simp) (by rcases hw with e|e|e<;>rw[e]<;>decide);obtain⟨q,cap,rfl,hq,hc⟩:=za6 how (by simp)
  match ts,hn with
  | [ta,tb],_=>refine(zN2 h hb' (hc 0 ta rfl) (hc 1 tb rfl) hq (hp 0 ta _ rfl rfl) (hp 1 tb _ rfl rfl) (ha.1 0 (by omega)) (hb.1 0 (by omega)) (Nat.le_trans (ze0 (by simp)) hl) (Nat.le_trans (ze0 (by simp)) hl) (by rcases hw with e|e|e<;>simp[e])).mono ?_;rintro e w' ⟨rfl,hx⟩;refine⟨?_,hx⟩;rw[ftr,if_pos rfl,zd7];rcases hw with e|e|e<;>rw[e]<;>rfl
 | @le d wd a b v hw ha hb h1 h2=>
  intro w D t h kt hl;obtain⟨pv,ts,hb',how,hn,hp⟩:=KT.le_inv (ps:=[a,b]) kt hw;obtain⟨q,cap,rfl,hq,hc⟩:=za6 how (by simp)
  match ts,hn with
  | [ta,tb],_=>
   refine(zN2 h hb' (hc 0 ta rfl) (hc 1 tb rfl) hq (hp 0 ta _ rfl rfl) (hp 1 tb _ rfl rfl) (ha.1 0 (by omega)) (hb.1 0 (by omega)) (Nat.le_trans (ze0 (by simp)) hl) (Nat.le_trans (ze0 (by simp)) hl) (.inr (.inr (.inr ⟨hw,by omega,by omega⟩)))).mono ?_;rintro e w' ⟨rfl,hx⟩;refine⟨?_,hx⟩;rw[ftr,if_pos rfl,zd7]
   rfl
 | @not d wd a hw ha ih=>
  intro w D t h kt hl;obtain⟨pv,by_,ts,hb',how,hn,_,hp⟩:=kt.node_inv (by simp) (by rw[hw];decide);obtain⟨q,cap,rfl,hq,hc⟩:=za6 how (by simp)
  match ts,hn with
  | [ta],_=>
   refine(qI1 h hb' (hc 0 ta rfl) (hp 0 ta _ rfl rfl) (Nat.le_trans (ze0 (by simp)) hl) hw ih).mono ?_;rintro e w' ⟨rfl,hx⟩;refine⟨?_,hx⟩;rw[ftr,if_neg (by decide),if_neg (by decide),con,if_pos hw,qb1]
   rfl
 | @con d wd a b hw ha hb iha ihb=>
  intro w D t h kt hl;obtain⟨pv,by_,ts,hb',how,hn,_,hp⟩:=kt.node_inv (by simp) (by rcases hw with e|e|e|e<;>rw[e]<;>decide);obtain⟨q,cap,rfl,hq,hc⟩:=za6 how (by simp)
  match ts,hn with
  | [ta,tb],_=>refine(qI2 h hb' (hc 0 ta rfl) (hc 1 tb rfl) hq (hp 0 ta _ rfl rfl) (hp 1 tb _ rfl rfl) (Nat.le_trans (ze0 (by simp)) hl) (Nat.le_trans (ze0 (by simp)) hl) hw iha ihb).mono ?_;rintro e w' ⟨rfl,hx⟩;refine⟨?_,hx⟩;rw[ftr,if_neg (by decide),if_neg (by decide),qb1,qb1,qb1]
end
section
variable{w w':World}{gb sb:Nat}{N:List Nm}{I:Itp}
theorem qI4(w:World)(n:Int):Calls prog 51 #[.int .i64 n] w fun e w'=>e=.returned (.tuple #[.pointer (some ⟨w.heap.size,0,none⟩),.bool (decide (-1000<=n/\n<=1000))])/\q9 (fun _=>False) w w'/\w'.heap[w.heap.size]?=some (.cells #[.string ⟨#[35]⟩,.slice none 0 0,.int .i64 n] 72):=by
 have HX:=q8 ((q9.refl (fun _=>False) w).alloc (.cells #[.string ⟨#[35]⟩,.slice none 0 0,.int .i64 n] 72));by_cases h1:-1000<=n
 ·by_cases h2:n<=1000
  ·have e0:decide (-1000<=n/\n<=1000)=true:=by simp[h1,h2]
   rw[e0];clear e0;go_enter func51,ntmps51;go_wp2_with fail;refine bodyPost_ret (v:=.tuple #[.pointer (some ⟨w.heap.size,0,none⟩),.bool true]) (by simp[results,results51,go_sem]) rfl ⟨rfl,HX.out,heap_alloc_new w _⟩
  ·have e0:decide (-1000<=n/\n<=1000)=false:=by simp[h1];omega
   rw[e0];clear e0;go_enter func51,ntmps51;go_wp2_with fail;refine bodyPost_ret (v:=.tuple #[.pointer (some ⟨w.heap.size,0,none⟩),.bool false]) (by simp[results,results51,go_sem]) rfl ⟨rfl,HX.out,heap_alloc_new w _⟩
 ·have e0:decide (-1000<=n/\n<=1000)=false:=by simp[h1]
  rw[e0];clear e0;go_enter func51,ntmps51;go_wp2_with fail;refine bodyPost_ret (v:=.tuple #[.pointer (some ⟨w.heap.size,0,none⟩),.bool false]) (by simp[results,results51,go_sem]) rfl ⟨rfl,HX.out,heap_alloc_new w _⟩
def FnC(gb sb:Nat)(N:List Nm)(I:Itp)(nd:Nd):Prop:=∀ (w:World) (D:Nat->Prop) (t:Nat),MV w gb sb N I->KT w D t nd->(j9 nd).length<=600 ->
 Calls prog 31 #[.pointer (some ⟨gb,0,none⟩),.pointer (some ⟨t,0,none⟩)] w fun e w'=>e=.returned (.bool true)/\q9 (fun _=>False) w w'
theorem je7{t:Nat}{wd:ByteArray}{by_:Int}(hb:w.heap[t]?=some (.cells #[.string wd,.slice none 0 0,.int .i64 by_] 72))(hw:(wd.toList==[35])=false):
  Calls prog 31 #[.pointer (some ⟨gb,0,none⟩),.pointer (some ⟨t,0,none⟩)] w fun e w'=>e=.returned (.bool true)/\q9 (fun _=>False) w w':=by
 have c0:=z6 hb 0;have c1:=z6 hb 1;have HX:=q8 (q9.refl (fun _=>False) w);clear hb;go_enter func31,ntmps31;go_wp2_with fail
 go_region
 all_goals
  go_wp2_with fail;go_ret;exact⟨rfl,HX.out.drew⟩
theorem jp8(h:MV w gb sb N I){t:Nat}{v:Int}{D:Nat->Prop}(hd:D t)(hb:w.heap[t]?=some (.cells #[.string ⟨#[35]⟩,.slice none 0 0,.int .i64 v] 72))(h1:-1000<=v)(h2:v<=1000):
  Calls prog 31 #[.pointer (some ⟨gb,0,none⟩),.pointer (some ⟨t,0,none⟩)] w fun e w'=>e=.returned (.bool true)/\q9 (fun _=>False) w w':=by
 have c0:=z6 hb 0;have c1:=z6 hb 1;have KB:=q8 hb;have hl:(j9 (.mk 4 ByteArray.empty v [])).length<=600:=by rw[j9,if_neg (by decide),U0,if_pos (by decide)];have:=zD9 v;omega
 have hxd:q9 (fun _=>False) w w.drew:=(q9.refl (fun _=>False) w).drew;have c2:=z6 hb 2;have hc:=zn7 (h.ext hxd) ((KT.num hb hd h1 h2).ext hxd (fun _ _ _ f=>f)) (.num h1 h2) hl;rw[Y1,if_pos rfl] at hc;have HC:=q8 hc;have HVV:Hid ((v==v)=true):=beq_self_eq_true v;clear h hb hc hl hxd;go_enter func31,ntmps31;go_wp2_with fail
 go_region_law (go_simp;go_wp2_with (go_at_call 50;refine HC.out.mono ?_;rintro e w2 ⟨rfl,hx2⟩;have HX2:=q8 hx2;have k2:=(hx2.block _ (z8 KB.out) (fun f=>f)).trans KB.out;have d2:=z6 k2 2;clear hx2 k2))
 all_goals
  go_wp2_with fail;go_ret;exact⟨by first|rfl|(rw[<- HVV.out];rfl),((q9.refl (fun _=>False) w).drew).trans HX2.out⟩
theorem zV3:(prog.info? 31).map (fun i=>(i.zero,i.size,i.bytes))=some (some (.pointer none),1,8):=by kernel_rfl
def qj2(v:Int):Nd:=.mk 4 ByteArray.empty v []
structure FL(w:World)(I:Itp)(wd:ByteArray)(ps:List Nd)(pv:Value)(xs:List Nat)(fine:Bool)(wr:World):Prop where
 ext:q9 (fun _=>False) w wr
 blk:wr.heap[w.heap.size]?=some (.cells #[.string wd,pv,.int .i64 0] 72)
 own:wr.ownsRow 0 31 1 pv xs.length (xs.map fun a=>.pointer (some ⟨a,0,none⟩))
 ob:∀ g,pv.ownBlock=some g->w.heap.size<g
 nums:∀ (i x:Nat),xs[i]?=some x->w.heap.size<x/\∃ p,ps[i]?=some p/\wr.heap[x]?=some (.cells #[.string ⟨#[35]⟩,.slice none 0 0,.int .i64 (Y1 I p)] 72)
 fn:fine=true->∀ (i:Nat) (p:Nd),i<xs.length->ps[i]?=some p -> -1000<=Y1 I p/\Y1 I p<=1000
 few:xs.length<=ps.length
theorem FL.step{wr w3 w5:World}{wd:ByteArray}{ps:List Nd}{pv v':Value}{xs:List Nat}{fine:Bool}{x:Nat}{p:Nd}{o:Obj}(h:FL w I wd ps pv xs fine wr)(hx:q9 (fun _=>False) wr w3)(hxb:w3.heap[x]?=some (.cells #[.string ⟨#[35]⟩,.slice none 0 0,.int .i64 (Y1 I p)] 72))(hx0:w.heap.size<x)(hp:ps[xs.length]?=some p)
  (hown:w5.ownsRow 0 31 1 v' (xs.length+1) ((xs.map fun a=>.pointer (some ⟨a,0,none⟩))++[.pointer (some ⟨x,0,none⟩)])) (hgrow:(w3.alloc o).grownBy w5 pv.ownBlock) (hat:v'.ownBlock=pv.ownBlock\/v'.ownBlock=some (w3.alloc o).heap.size):
  w5.heap[w.heap.size]?=some (.cells #[.string wd,pv,.int .i64 0] 72)/\FL w I wd ps v' (xs++[x]) (fine && decide (-1000<=Y1 I p/\Y1 I p<=1000)) (w5.setCell ⟨w.heap.size,1,none⟩ v'):=by
 have hb:=z8 h.blk;have h35:q9 (fun k=>pv.ownBlock=some k) w3 w5:=(((q9.refl (fun _=>False) w3).alloc o).mono (fun _ _ f=>f.elim)).grown hgrow (fun k hk _=>hk);have hr5:q9 (fun k=>pv.ownBlock=some k) wr w5:=(hx.mono (fun _ _ f=>f.elim)).trans h35;have hob:¬pv.ownBlock=some w.heap.size:=fun e=>by have:=h.ob _ e;omega
 have k5:=(hr5.block _ hb hob).trans h.blk;have hxs:q9 (fun k=>k=w.heap.size) w5 (w5.setCell ⟨w.heap.size,1,none⟩ v'):=(q9.refl (fun k=>k=w.heap.size) w5).setCell (p:=⟨w.heap.size,1,none⟩) (fun _=>rfl) _;have hot:∀ (W:World) (n:Nat) (zs:List Value) (u:Value) (k:Nat) (cs:Array Value),W.ownsRow 0 31 1 u n zs->W.heap[k]?=some (.cells cs 72)->¬u.ownBlock=some k:=fun W n zs u k cs ho hk=>Z7 ho hk (by decide)
 have ho3:=z7 h.own hx (fun _ _ f=>f);have hvs:∀ g,v'.ownBlock=some g->w.heap.size<g:=by
  intro g hg;rcases hat with e|e
  ·rw[e] at hg;exact h.ob g hg
  ·rw[e] at hg;simp at hg;have:=hx.size;omega
 refine⟨k5,⟨?_,?_,?_,hvs,fun i y hy=>?_,fun hf i q hi hq=>?_,?_⟩⟩
 ·exact(h.ext.trans' hr5 (fun k hk e=>by have:=h.ob k e;omega)).trans' hxs (fun k hk e=>by omega)
 ·exact Y4 k5 1 v'
 ·rw[List.map_append,List.length_append];exact z7 hown hxs (fun k hk e=>by have:=hvs k hk;omega)
 ·by_cases hi:i<xs.length
  ·rw[List.getElem?_append_left hi] at hy;obtain⟨h1,q,hq,h2⟩:=h.nums i y hy;have h3:=(hr5.block y (z8 h2) (hot _ _ _ _ _ _ h.own h2)).trans h2;exact⟨h1,q,hq,(hxs.block y (z8 h3) (by omega)).trans h3⟩
  ·have hl:=(List.getElem?_eq_some_iff.1 hy).1;simp at hl;obtain rfl:i=xs.length:=by omega
   rw[List.getElem?_append_right (Nat.le_refl _)] at hy;simp at hy;subst hy;have h3:=(h35.block x (z8 hxb) (hot _ _ _ _ _ _ ho3 hxb)).trans hxb;exact⟨hx0,p,hp,(hxs.block x (z8 h3) (by omega)).trans h3⟩
 ·rw[Bool.and_eq_true] at hf;by_cases hi2:i<xs.length
  ·exact h.fn hf.1 i q hi2 hq
  ·simp at hi;obtain rfl:i=xs.length:=by omega
   rw[hp] at hq;obtain rfl:p=q:=by simpa using hq
   exact of_decide_eq_true hf.2
 ·have:=(List.getElem?_eq_some_iff.1 hp).1;simp;omega
end
section
variable{w w':World}{gb sb:Nat}{N:List Nm}{I:Itp}
theorem Ar.RT.down{d e:Nat}{nd:Nd}(h:RT N e nd)(hd:d<=e):RT N d nd:=by
 induction h generalizing d with
 | name h ha=>exact .name h ha
 | num h1 h2=>exact .num h1 h2
 | app h hne ha hd' hp ih=>exact .app h hne ha (by omega) (fun p hpm=>ih p hpm (by omega))
theorem je8{wd:ByteArray}{ps:List Nd}:FL w I wd ps (.slice none 0 0) [] true (w.alloc (.cells #[.string wd,.slice none 0 0,.int .i64 0] 72)) :=
 ⟨(q9.refl _ w).alloc _,heap_alloc_new w _,World.ownsRow_nil _ _ _ _,fun g hg=>by simp[Value.ownBlock] at hg,fun i x hx=>by simp at hx,fun _ i p hi=>absurd hi (Nat.not_lt_zero i),Nat.zero_le _⟩
def zG2(I:Itp)(wd:ByteArray)(ps:List Nd):Nd:=.mk 3 wd 0 (ps.map fun p=>qj2 (Y1 I p))
theorem qT2(wd:ByteArray)(ps:List Nd):Y1 I (zG2 I wd ps)=Y1 I (.mk 3 wd 0 ps):=by
 unfold zG2;rw[Y1,if_neg (by decide),Y1,if_neg (by decide),zo6,zo6,List.map_map];have e:ps.map (Y1 I ∘ fun p=>qj2 (Y1 I p))=ps.map (Y1 I):=List.map_congr_left (fun p _=>by show Y1 I (qj2 (Y1 I p))=Y1 I p;unfold qj2;rw[Y1,if_pos rfl])
 rw[e]
theorem qI5(vs:List Int):(Q9 (vs.map qj2)).length<=vs.length*6:=by
 induction vs with
 | nil=>exact Nat.le_refl _
 | cons v vs ih=>rw[List.map_cons,Q9,qj2,j9,if_neg (by decide),U0,if_pos (by decide)];have:=zD9 v;simp;omega
theorem qI6{wd:ByteArray}{ps:List Nd}(hw:wd.size<=8)(hl:ps.length<=3)(hne:ps≠[]):(j9 (zG2 I wd ps)).length<=600:=by have h:=qI5 (ps.map (Y1 I));rw[List.map_map,List.length_map] at h;unfold zG2;rw[j9,if_pos (.inr (.inr (by simpa using hne))),U0,if_neg (by decide)];have e:=Z4 wd;simp only[List.length_cons,List.length_append,List.length_nil];have h':(Q9 (ps.map fun p=>qj2 (Y1 I p))).length<=ps.length*6:=h;omega
theorem je9{wd:ByteArray}{ps:List Nd}(hr:RT N 0 (.mk 3 wd 0 ps))(hne:ps≠[])(hb:∀ p∈ps,-1000<=Y1 I p/\Y1 I p<=1000):RT N 0 (zG2 I wd ps):=by
 unfold zG2;cases hr with
 | name _ _=>exact absurd rfl hne
 | app h _ ha hd hp=>refine .app h (by simpa using hne) (by simpa using ha) hd (fun q hq=>?_);obtain⟨p,hpp,rfl⟩:=List.mem_map.1 hq;exact .num (hb p hpp).1 (hb p hpp).2
theorem FL.done{wr:World}{wd:ByteArray}{ps:List Nd}{pv:Value}{xs:List Nat}(h:FL w I wd ps pv xs true wr)(hx:xs.length=ps.length)(hkw:zH0 wd.toList=true)(hne:ps≠[]):KT wr (fun k=>w.heap.size<=k) w.heap.size (zG2 I wd ps):=by
 unfold zG2;refine KT.node h.blk (Nat.le_refl _) (.inr (.inr rfl)) hkw (by simpa using hne) (by rw[List.length_map,<- hx];exact h.own) (fun g hg=>Nat.le_of_lt (h.ob g hg)) (by simpa using hx) (fun i a p ha hp=>?_);obtain⟨h1,q,hq,h2⟩:=h.nums i a ha;rw[List.getElem?_map,hq] at hp;obtain rfl:qj2 (Y1 I q)=p:=by simpa using hp
 have hi:=(List.getElem?_eq_some_iff.1 ha).1;obtain⟨b1,b2⟩:=h.fn rfl i q hi hq;exact .num h2 (Nat.le_of_lt h1) b1 b2
theorem jp9(h:MV w gb sb N I){D:Nat->Prop}{t q cap:Nat}{wd:ByteArray}{by_:Int}{ps:List Nd}{ts:List Nat}(hb:w.heap[t]?=some (.cells #[.string wd,.slice (some ⟨q,0,none⟩) ps.length cap,.int .i64 by_] 72))(hq:q<w.heap.size)(hne:0<ps.length)
  (hc:∀ i a,ts[i]?=some a->w.cell? ⟨q,i,none⟩=some (.pointer (some ⟨a,0,none⟩))) (hn:ts.length=ps.length) (hp:∀ (i:Nat) (a:Nat) (p:Nd),ts[i]?=some a->ps[i]?=some p->KT w D a p) (kt:KT w D t (.mk 3 wd 0 ps)) (hl:(j9 (.mk 3 wd 0 ps)).length<=600) (hr:RT N 0 (.mk 3 wd 0 ps)) (hrp:∀ p∈ps,RT N 0 p) (hkw:zH0 wd.toList=true) (hcap:ps.length<=cap)
  (ih:∀ p∈ps,FnC gb sb N I p):
  Calls prog 31 #[.pointer (some ⟨gb,0,none⟩),.pointer (some ⟨t,0,none⟩)] w fun e w'=>e=.returned (.bool true)/\q9 (fun _=>False) w w':=by
 have c0:=z6 hb 0;have c1:=z6 hb 1;have hne0:((ps.length:Int)==0)=false:=by rw[beq_eq_false_iff_ne];omega
 have htb:=z8 hb;obtain⟨hl3,hws⟩:ps.length<=3/\wd.size<=8:=by
  cases hr.ok h.few with
  | app hw hl' _=>exact⟨hl',zD7 hw⟩
 have H:=q8 h;have KB:=q8 hb;have HC:=q8 hc;have HN:=q8 hn;have HP:=q8 hp;have HKT:=q8 kt;have HL:=q8 hl;have HR:=q8 hr;have HRP:=q8 hrp;have HKW:=q8 hkw;have HIH:=q8 ih;have HFZ:Hid (FL w I wd ps (.slice none 0 0) [] true (w.alloc (.cells #[.string wd,.slice none 0 0,.int .i64 0] 72))):=je8;have hi0:=zV3;cases hi:prog.info? 31 with
 | none=>rw[hi] at hi0;simp at hi0
 | some i0=>
 rw[hi] at hi0;simp only[Option.map_some,Option.some.injEq,Prod.mk.injEq] at hi0;obtain⟨hz0,hz1,hz2⟩:=hi0;have HI:=q8 (And.intro hi (And.intro hz0 (And.intro hz1 hz2)));clear h hb hc hn hp kt hl hr hrp hkw ih hi hz0 hz1 hz2;go_enter func31,ntmps31;go_wp2_with fail
 go_loopw [6,7] (fun vf vi wr=>∃ (pv:Value) (xs:List Nat) (fine:Bool),vf=.bool fine/\vi=.int .i64 xs.length/\FL w I wd ps pv xs fine wr) (fun _ vi _=>ps.length-(intOf vi).toNat)
 case atStart=>exact⟨_,[],true,rfl,rfl,HFZ.out⟩
 case round=>
  clear HFZ c0 c1;obtain⟨pv,xs,fine,rfl,rfl,hF⟩:=hrel;have HF:=q8 hF;have hfew:=hF.few;have kr:=(hF.ext.block _ htb (fun f=>f)).trans KB.out;have c0:=z6 kr 0;have c1:=z6 kr 1;have KR:=q8 kr;clear hF kr;by_cases hlt:xs.length<ps.length
  ·obtain⟨p,hp⟩:∃ p,ps[xs.length]?=some p:=⟨_,List.getElem?_eq_getElem hlt⟩;obtain⟨a,ha⟩:∃ a,ts[xs.length]?=some a:=⟨_,List.getElem?_eq_getElem (by rw[HN.out];exact hlt)⟩;have z:=(HF.out.ext.cell (p:=⟨q,xs.length,none⟩) hq (fun f=>f)).trans (HC.out xs.length a ha);have hpm:=List.mem_of_getElem? hp;have hk1:=(HP.out xs.length a p ha hp).ext HF.out.ext (fun _ _ _ f=>f);have hlp:(j9 p).length<=600:=Nat.le_trans (ze0 hpm) HL.out;have HC1:=q8 (HIH.out p hpm wr D a (H.out.ext HF.out.ext) hk1 hlp);have HK1:=q8 hk1;have HRp:=q8 (HRP.out p hpm);have HPX:=q8 hp;have hcl:xs.length<cap:=by omega
   clear hk1 hp ha;go_wp2_with fail;refine HC1.out.mono ?_;rintro e w1 ⟨rfl,hx1⟩;have k1:=(hx1.block _ (z8 KR.out) (fun f=>f)).trans KR.out;have d1:=z6 k1 1;have z1:=(hx1.cell (p:=⟨q,xs.length,none⟩) (Nat.lt_of_lt_of_le hq HF.out.ext.size) (fun f=>f)).trans z;have HX1:=q8 hx1;have HC2:=q8 (zn7 ((H.out.ext HF.out.ext).ext hx1) (HK1.out.ext hx1 (fun _ _ _ f=>f)) HRp.out hlp);clear hx1 k1 c0 c1 z HC1;go_wp2_with fail;refine HC2.out.mono ?_;rintro e w2 ⟨rfl,hx2⟩;have HX2:=q8 (HX1.out.trans hx2);clear hx2 d1 z1 HC2;go_wp2_with fail;refine(qI4 w2 _).mono ?_;rintro e w3 ⟨rfl,hx3,kx⟩;have HX3:=q8 (HX2.out.trans hx3);have KX:=q8 kx;have hx3s:=hx3.size;have hw2s:=HX2.out.size;have hws2:=z8 HF.out.blk;have k3:=(HX3.out.block _ (z8 HF.out.blk) (fun f=>f)).trans HF.out.blk;have f1:=z6 k3 1;have HO3:=q8 (z7 HF.out.own HX3.out (fun _ _ f=>f));clear hx3 kx k3;obtain⟨hi,hz0,hz1,hz2⟩:=HI.out;cases fine
   all_goals
    go_wp2_with (at_builtin;refine wpList_append_own_at _ rfl _ _ 49 rfl 0 31 i0 (.pointer none) 1 8 underlying49 hi hz0 hz1 hz2 rfl (by decide) _ _ _ rfl (HO3.out.alloc _) ⟨w3.heap.size,0,none⟩ 1 1 [.pointer (some ⟨w2.heap.size,0,none⟩)] rfl rfl ?c1 ?c2 ?c3 ?c4 ?c5 ?_)
    case c1=>
     intro j u hj
     match j,hj with
     | 0,hj=>simp at hj;subst hj;simp[Addr.add]
    case c2=>intro u hu;simp at hu;subst hu;rfl
    case c3=>unfold maxLen;omega
    case c4=>omega
    case c5=>omega
    intro v' w5 hown' hgrow _ hat;obtain⟨k5,hF5⟩:=HF.out.step HX3.out KX.out (by omega) HPX.out hown' hgrow (hat.imp id (fun e=>by rw[e];simp));obtain⟨a',c',rfl⟩:=Q0 hown';have g1:=z6 k5 1;have g2:=Q8 k5 1;have HF5:=q8 hF5;have hz5:=z8 k5;clear hown' hgrow hat k5 hF5 f1 hi hz0 hz1 hz2;go_wp2_with fail
    go_roundw
    case measure=>simp[intOf];omega
    case rel=>exact⟨_,xs++[w2.heap.size],_,by simp,by simp,HF5.out⟩
  ·have hxl:xs.length=ps.length:=by omega
   have hge:¬(xs.length:Int)<(ps.length:Int):=by omega
   cases fine with
   | false=>go_wp2_with fail;go_ret;exact⟨rfl,HF.out.ext⟩
   | true=>
    have hne2:ps≠[]:=fun e=>by rw[e] at hne;simp at hne
    have hb:∀ p∈ps,-1000<=Y1 I p/\Y1 I p<=1000:=fun p hp=>by obtain⟨i,hi⟩:=List.getElem?_of_mem hp;exact HF.out.fn rfl i p (by have:=(List.getElem?_eq_some_iff.1 hi).1;omega) hi
    have hc1:=zn7 (H.out.ext HF.out.ext) (HF.out.done hxl HKW.out hne2) (je9 HR.out hne2 hb) (qI6 hws hl3 hne2);rw[qT2] at hc1;obtain⟨x,hx⟩:∃ x,Y1 I (.mk 3 wd 0 ps)=x:=⟨_,rfl⟩;rw[hx] at hc1;have HXX:=q8 hx;have hvv:(x==x)=true:=beq_self_eq_true x;have HC1:=q8 hc1;clear hc1 hx hb;go_wp2_with fail;refine HC1.out.mono ?_;rintro e w1 ⟨rfl,hx1⟩;have hc2:=zn7 ((H.out.ext HF.out.ext).ext hx1) ((HKT.out.ext HF.out.ext (fun _ _ _ f=>f)).ext hx1 (fun _ _ _ f=>f)) HR.out HL.out;rw[HXX.out] at hc2;have HC2:=q8 hc2;have HX1:=q8 (HF.out.ext.trans hx1);clear hx1 hc2 HC1;go_wp2_with fail;refine HC2.out.mono ?_;rintro e w2 ⟨rfl,hx2⟩;have HX2:=q8 (HX1.out.trans hx2);clear hx2 HC2;go_wp2_with fail;go_ret;exact⟨rfl,HX2.out⟩
theorem zj9{d:Nat}{nd:Nd}(hr:RT N d nd):RT N 0 nd->FnC gb sb N I nd:=by
 induction hr with
 | @name d wd h ha=>
  intro _ w D t hm kt hl
  generalize e:Nd.mk 3 wd 0 []=x at kt
  cases kt with
  | num=>simp at e
  | name hb hd hw=>simp only[Nd.mk.injEq] at e;obtain⟨_,rfl,_⟩:=e;exact je7 hb (by rcases hw with e|e|e<;>rw[e]<;>rfl)
  | node hb hd hk hkw hne=>simp only[Nd.mk.injEq] at e;exact absurd e.2.2.2.symm hne
  | le=>simp at e
 | @num d v h1 h2=>
  intro _ w D t hm kt hl
  generalize e:Nd.mk 4 ByteArray.empty v []=x at kt
  cases kt with
  | num hb hd h1 h2=>simp only[Nd.mk.injEq] at e;obtain⟨_,_,rfl,_⟩:=e;exact jp8 hm hd hb h1 h2
  | name=>simp at e
  | node hb hd hk=>simp only[Nd.mk.injEq] at e;have:=e.1;omega
  | le=>simp at e
 | @app d wd ps h hne ha hd hp ih=>
  intro hr0 w D t hm kt hl;obtain⟨pv,by_,ts,hb',how,hn,hkw,hpp⟩:=kt.node_inv hne (by intro e;rw[e] at h;revert h;decide);have hl0:0<ps.length:=List.length_pos_iff.2 hne;obtain⟨q,cap,rfl,hq,hc⟩:=za6 how hl0;have hcap:ps.length<=cap:=by
   rcases how.2 with⟨e,_⟩|⟨g,cap',cur,hv,_,hh,h1,_⟩
   ·simp at e
   ·simp at hv;omega
  have hrp:∀ p∈ps,RT N 0 p:=by
   intro p hpm;cases hr0 with
   | name=>cases hpm
   | app _ _ _ _ hp'=>exact(hp' p hpm).down (Nat.zero_le _)
  exact jp9 hm hb' hq hl0 hc hn hpp kt hl hr0 hrp hkw hcap (fun p hpm=>ih p hpm (hrp p hpm))
end
section
variable{w w':World}{gb sb:Nat}{N:List Nm}{I:Itp}
def TsC(gb sb:Nat)(N:List Nm)(I:Itp)(nd:Nd):Prop:=∀ (w:World) (D:Nat->Prop) (t:Nat),MV w gb sb N I->KT w D t nd->(j9 nd).length<=600 ->
 Calls prog 30 #[.pointer (some ⟨gb,0,none⟩),.pointer (some ⟨t,0,none⟩)] w fun e w'=>e=.returned (.bool true)/\q9 (fun _=>False) w w'
theorem zp5{t q cap m:Nat}{wd:ByteArray}{by_:Int}{ts:List Nat}(hb:w.heap[t]?=some (.cells #[.string wd,.slice (some ⟨q,0,none⟩) m cap,.int .i64 by_] 72))(hq:q<w.heap.size)(hm2:m<=2)
  (hc:∀ (i a:Nat),ts[i]?=some a->w.cell? ⟨q,i,none⟩=some (.pointer (some ⟨a,0,none⟩))) (hn:ts.length=m)
  (hw:((wd.toList==[61])=true\/(wd.toList==[61])=false/\((wd.toList==[60])=true\/(wd.toList==[60])=false/\((wd.toList==[60,61])=true\/(wd.toList==[60,61])=false/\(wd.toList==[108,101])=true)))/\(∀ (i a:Nat),ts[i]?=some a->∀ W,q9 (fun _=>False) w W->Calls prog 31 #[.pointer (some ⟨gb,0,none⟩),.pointer (some ⟨a,0,none⟩)] W fun e w'=>e=.returned (.bool true)/\q9 (fun _=>False) W w') \/
   ((wd.toList==[61])=false/\(wd.toList==[60])=false/\(wd.toList==[60,61])=false/\(wd.toList==[108,101])=false)/\(∀ (i a:Nat),ts[i]?=some a->∀ W,q9 (fun _=>False) w W->Calls prog 30 #[.pointer (some ⟨gb,0,none⟩),.pointer (some ⟨a,0,none⟩)] W fun e w'=>e=.returned (.bool true)/\q9 (fun _=>False) W w')):
  Calls prog 30 #[.pointer (some ⟨gb,0,none⟩),.pointer (some ⟨t,0,none⟩)] w fun e w'=>e=.returned (.bool true)/\q9 (fun _=>False) w w':=by
 have KB:=q8 hb;have htb:=z8 hb;have HC:=q8 hc;have HN:=q8 hn;have HW:=q8 hw;have HX:=q8 (q9.refl (fun _=>False) w);clear hb hc hn hw;go_enter func30,ntmps30;go_wp2_with fail
 go_loopw [5] (fun vi wr=>∃ j:Nat,j<=m/\vi=.int .i64 j/\q9 (fun _=>False) w wr) (fun vi _=>m-(intOf vi).toNat)
 case atStart=>exact⟨0,Nat.zero_le _,rfl,HX.out⟩
 case round=>
  obtain⟨j,hj,rfl,hxr⟩:=hrel;have kr:=(hxr.block _ htb (fun f=>f)).trans KB.out;have c0:=z6 kr 0;have c1:=z6 kr 1;have HXR:=q8 hxr;clear hxr kr HX;by_cases hlt:j<m
  ·obtain⟨a,ha⟩:∃ a,ts[j]?=some a:=⟨_,List.getElem?_eq_getElem (by rw[HN.out];exact hlt)⟩;have z:=(HXR.out.cell (p:=⟨q,j,none⟩) hq (fun f=>f)).trans (HC.out j a ha);rcases HW.out with⟨hw,hf⟩|⟨⟨e1,e2,e3,e4⟩,hf⟩
   ·have HF:=q8 (hf j a ha wr HXR.out);clear hf ha;rcases hw with e1|⟨e1,e2|⟨e2,e3|⟨e3,e4⟩⟩⟩
    all_goals
     go_wp2_with fail;refine HF.out.mono ?_;rintro e w1 ⟨rfl,hx1⟩;have HX1:=q8 (HXR.out.trans hx1);clear hx1;go_wp2_with fail
     go_roundw
     case measure=>simp[intOf];omega
     case rel=>exact⟨j+1,by omega,by go_num,HX1.out⟩
   ·have HF:=q8 (hf j a ha wr HXR.out);clear hf ha;go_wp2_with fail;refine HF.out.mono ?_;rintro e w1 ⟨rfl,hx1⟩;have HX1:=q8 (HXR.out.trans hx1);clear hx1;go_wp2_with fail
    go_roundw
    case measure=>simp[intOf];omega
    case rel=>exact⟨j+1,by omega,by go_num,HX1.out⟩
  ·have hge:¬(j:Int)<(m:Int):=by omega
   go_wp2_with fail;go_ret;exact⟨rfl,HXR.out⟩
theorem qs8{d:Nat}{nd:Nd}(hm:MF N d nd):TsC gb sb N I nd:=by
 induction hm with
 | @two d wd a b hw ha hb=>
  intro w D t h kt hl;obtain⟨pv,by_,ts,hb',how,hn,_,hp⟩:=kt.node_inv (by simp) (by rcases hw with e|e|e<;>rw[e]<;>decide);obtain⟨q,cap,rfl,hq,hc⟩:=za6 how (by simp);have hr:∀ p∈[a,b],RT N 0 p:=fun p hp=>(List.mem_cons.1 hp).elim (fun e=>e▸ha.1 0 (by omega)) (fun hp=>List.mem_singleton.1 hp▸hb.1 0 (by omega))
  refine zp5 hb' hq (Nat.le_refl _) hc hn (.inl ⟨by rcases hw with e|e|e<;>rw[e]<;>decide,fun i x hx W hW=>?_⟩);obtain⟨p,hpp⟩:∃ p,[a,b][i]?=some p:=⟨_,List.getElem?_eq_getElem (by rw[<- hn];exact(List.getElem?_eq_some_iff.1 hx).1)⟩;have hpm:=List.mem_of_getElem? hpp;exact zj9 (hr p hpm) (hr p hpm) W D x (h.ext hW) ((hp i x p hx hpp).ext hW (fun _ _ _ f=>f)) (Nat.le_trans (ze0 hpm) hl)
 | @le d wd a b v hw ha hb h1 h2=>
  intro w D t h kt hl;obtain⟨pv,ts,hb',how,hn,hp⟩:=KT.le_inv (ps:=[a,b]) kt hw;obtain⟨q,cap,rfl,hq,hc⟩:=za6 how (by simp);have hr:∀ p∈[a,b],RT N 0 p:=fun p hp=>(List.mem_cons.1 hp).elim (fun e=>e▸ha.1 0 (by omega)) (fun hp=>List.mem_singleton.1 hp▸hb.1 0 (by omega))
  refine zp5 hb' hq (Nat.le_refl _) hc hn (.inl ⟨by rw[hw];decide,fun i x hx W hW=>?_⟩);obtain⟨p,hpp⟩:∃ p,[a,b][i]?=some p:=⟨_,List.getElem?_eq_getElem (by rw[<- hn];exact(List.getElem?_eq_some_iff.1 hx).1)⟩;have hpm:=List.mem_of_getElem? hpp;exact zj9 (hr p hpm) (hr p hpm) W D x (h.ext hW) ((hp i x p hx hpp).ext hW (fun _ _ _ f=>f)) (Nat.le_trans (ze0 (List.mem_append_left [.mk 5 ByteArray.empty v []] hpm)) hl)
 | @not d wd a hw ha ih=>
  intro w D t h kt hl;obtain⟨pv,by_,ts,hb',how,hn,_,hp⟩:=kt.node_inv (by simp) (by rw[hw];decide);obtain⟨q,cap,rfl,hq,hc⟩:=za6 how (by simp);refine zp5 hb' hq (by simp) hc hn (.inr ⟨by rw[hw];decide,fun i x hx W hW=>?_⟩);obtain⟨p,hpp⟩:∃ p,[a][i]?=some p:=⟨_,List.getElem?_eq_getElem (by rw[<- hn];exact(List.getElem?_eq_some_iff.1 hx).1)⟩;have hpm:=List.mem_of_getElem? hpp;obtain rfl:p=a:=by simpa using hpm
  exact ih W D x (h.ext hW) ((hp i x p hx hpp).ext hW (fun _ _ _ f=>f)) (Nat.le_trans (ze0 hpm) hl)
 | @con d wd a b hw ha hb iha ihb=>
  intro w D t h kt hl;obtain⟨pv,by_,ts,hb',how,hn,_,hp⟩:=kt.node_inv (by simp) (by rcases hw with e|e|e|e<;>rw[e]<;>decide);obtain⟨q,cap,rfl,hq,hc⟩:=za6 how (by simp);have hr:∀ p∈[a,b],TsC gb sb N I p:=fun p hp=>(List.mem_cons.1 hp).elim (fun e=>e▸iha) (fun hp=>List.mem_singleton.1 hp▸ihb)
  refine zp5 hb' hq (Nat.le_refl _) hc hn (.inr ⟨by rcases hw with e|e|e|e<;>rw[e]<;>decide,fun i x hx W hW=>?_⟩);obtain⟨p,hpp⟩:∃ p,[a,b][i]?=some p:=⟨_,List.getElem?_eq_getElem (by rw[<- hn];exact(List.getElem?_eq_some_iff.1 hx).1)⟩;have hpm:=List.mem_of_getElem? hpp;exact hr p hpm W D x (h.ext hW) ((hp i x p hx hpp).ext hW (fun _ _ _ f=>f)) (Nat.le_trans (ze0 hpm) hl)
end
theorem jt5:zZ9 zd6:=⟨by kernel_rfl,by kernel_rfl,by kernel_rfl,by kernel_rfl,by kernel_rfl⟩
section
variable{w w0 w1 w':World}{sb:Nat}{N:List Nm}{L:List (Nd × Int)}{d:Nat}{G D:Nat->Prop}{ga:Option Addr}{n cap:Nat}{g:Nat->Int}
theorem jd9(h:zZ8 w ga n g)(hx:q9 (fun _=>False) w w1):RW (w1.alloc (.cells #[.slice ga n cap,.int .i64 0] 30)) w1.heap.size ga n cap 0 g:=by refine⟨heap_alloc_new _ _,Nat.zero_le _,h.ext (hx.alloc _) (fun _ _ _ _ f=>f),fun b off hn e=>?_⟩;obtain⟨b',off',e',hb,_⟩:=h 0 hn;rw[e] at e';simp at e';have:=hx.size;omega
theorem jt6{Q:List Nd}{s:ByteArray}{nd:Nd}(hs:s.toList=j9 nd)(hR:RF N 0 nd)(hl:(j9 nd).length<=600):
  (zw2 (O5 N Q s).1 (O5 N Q s).2.1=0/\(O5 N Q s).2.2=some nd)\/(zw2 (O5 N Q s).1 (O5 N Q s).2.1=1/\(O5 N Q s).2.2=none):=by
 obtain⟨us,e⟩:=zT0 hR;have hsz:s.size<=600:=by rw[<- Z4,hs];exact hl
 unfold O5;rw[if_neg (by omega),hs,e];simp only;split
 ·exact .inr ⟨rfl,rfl⟩
 ·split
  ·exact .inr ⟨rfl,rfl⟩
  ·split
   ·exact .inr ⟨rfl,rfl⟩
   ·exact .inl ⟨rfl,rfl⟩
theorem je0(h:KS w0 G w sb N L d){s:ByteArray}{nd:Nd}(hs:s.toList=j9 nd)(hR:RF N 0 nd)(hl:(j9 nd).length<=600)(hhd:U4 w0):
  Calls prog 15 #[.pointer (some ⟨sb,0,none⟩),.string s] w fun e w'=>∃ (i:Int) (o:Option Nd),e=.returned (.int .i64 i)/\(i=0/\o=some nd\/i=1/\o=none)/\KP w0 G w sb N (L++zE7 o d) d w':=by
 have hsz:s.size<=600:=by rw[<- Z4,hs];exact hl
 refine(qj6 h s (by unfold maxLen;omega) hhd).mono ?_;rintro e w' ⟨rfl,hp⟩;exact⟨_,_,rfl,jt6 hs hR hl,hp⟩
end
end Go.Proofs.YtegbdaffhpiacaaGreatDoor
