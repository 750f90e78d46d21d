/- A part of the proof. -/
import Derived.Test.YtegbdaffhpiacaaGreatDoorMod38
import Derived.Test.YtegbdaffhpiacaaGreatDoorMod39
import Derived.Test.YtegbdaffhpiacaaGreatDoorMod40
set_option maxRecDepth 100000
set_option maxHeartbeats 4000000
namespace Go.Proofs.YtegbdaffhpiacaaGreatDoor
open Go.Proofs.Tryz hiding parts
section
open Go.RowKit Ar
def scopeIn?:Code->Option Code
 | .scope c=>some c
 | .seq a b=>(scopeIn? a).orElse (fun _=>scopeIn? b)
 | .block _ c=>scopeIn? c
 | _=>none
def FrR(sb bn bb:Nat)(a:Act):Prop:=∃ (sm:Bool) (u6 u7 u8 u9 u10 u11 u12 u13 u14 u15 u16 u17 u18 u19 u20 u21 u22 u23 u24 u25 u26 u27 u28 u29 u30 u31 u32 u33 u34 u35 u36 u37 u38 u39 u40 u41 u42 u43 u44 u45 u46 u47 u48 u49 u50:Value),a = { tmps:=#[.pointer (some ⟨sb,0,none⟩),undef,.bool false,.pointer (some ⟨bn,0,none⟩),.bool sm,.pointer (some ⟨bb,0,none⟩),u6,u7,u8,u9,u10,u11,u12,u13,u14,u15,u16,u17,u18,u19,u20,u21,u22,u23,u24,u25,u26,u27,u28,u29,u30,u31,u32,u33,u34,u35,u36,u37,u38,u39,u40,u41,u42,u43,u44,u45,u46,u47,u48,u49,u50],defers:=[] }
def zS3(Kp:Nat->Prop)(w W:World)(sb hb g:Nat)(c:ThV)(tv lv:Value):Prop:=∀ k o,Kp k->w.heap[k]?=some o->W.heap[k]?=some o/\¬SrF sb hb g c tv lv k
section
variable{Kp:Nat->Prop}{w W W1:World}{sb hb g g1:Nat}{c c1:ThV}{tv lv tv1 lv1:Value}
theorem zS3.ext(h:zS3 Kp w W sb hb g c tv lv)(hx:q9 (fun _=>False) W W1):zS3 Kp w W1 sb hb g c tv lv:=fun k o hk ho=>
 let ⟨a,b⟩:=h k o hk ho
 ⟨(hx.block k (z8 a) (fun f=>f)).trans a,b⟩
theorem zS3.mv(h:zS3 Kp w W sb hb g c tv lv)(hm:Mv sb hb g c tv lv g1 c1 tv1 lv1 W W1):zS3 Kp w W1 sb hb g1 c1 tv1 lv1:=fun k o hk ho=>
 let ⟨a,b⟩:=h k o hk ho
 hm.keep a b
theorem zS3.aside{S:Nat->Prop}(h:zS3 Kp w W sb hb g c tv lv)(hx:q9 S W W1)(hS:∀ k,S k->w.heap.size<=k):zS3 Kp w W1 sb hb g c tv lv:=fun k o hk ho=>
 let ⟨a,b⟩:=h k o hk ho
 ⟨(hx.block k (z8 a) (fun e=>by have:=hS k e;have:=z8 ho;omega)).trans a,b⟩
end
structure RJ(Kp:Nat->Prop)(B:Nat)(w:World)(sb hb bn bb:Nat)(TK:List Z3)(AK:List PA)(tw:List (Nat × Nat))(F:Fx)(al:Nat->Bool)(W:World)(s0:St)(m0:M3)(g:Nat)(c:ThV)(tv lv:Value)(tr:List St)(ls:List (List (BitVec 64)))(TT:List W9)(l0:Nat->Bool):Prop where
 rs:zi5 B W sb hb TK AK tw F al g c tv lv tr ls TT l0
 kn:W.heap[bn]?=some (.cells #[.int .i64 s0.q,.bool s0.yes,.bool s0.turned,.int .u64 s0.blame.a.toNat,.int .u64 s0.blame.b.toNat,.int .u64 s0.blame.c.toNat] 250)
 kb:W.heap[bb]?=some (.cells #[.int .u64 m0.a.toNat,.int .u64 m0.b.toNat,.int .u64 m0.c.toNat] 197)
 nn:¬SrF sb hb g c tv lv bn
 nb:¬SrF sb hb g c tv lv bb
 lo:w.heap.size<=bn/\w.heap.size<=bb
 bl:Below B w W
 bw:B<=w.heap.size
 kp:zS3 Kp w W sb hb g c tv lv
section
variable(Kp:Nat->Prop)(B:Nat)(w:World)(sb hb bn bb:Nat)(TK:List Z3)(AK:List PA)(tw:List (Nat × Nat))(F:Fx)(al:Nat->Bool)
def zi6(l n:Nat)(a:Act)(W:World):Prop:=FrR sb bn bb a/\∃ s0 m0 g c tv lv tr ls TT l0,RJ Kp B w sb hb bn bb TK AK tw F al W s0 m0 g c tv lv tr ls TT l0 /\
  ((l=1/\zc4 F AK tw tr TT tr.length/\n=zh9 (AK.map PA.at_) (nw AK) l0 tr 2) \/
   (l=0/\zc4 F AK tw tr TT tr.length/\n=zh9 (AK.map PA.at_) (nw AK) l0 tr 1) \/
   (l=2/\(∃ tr1 s T X Y,tr=tr1++[s]/\TT=T++[X]++[Y]/\zc4 F AK tw tr TT tr1.length/\J8 tr.length Y.wrong/\∀ v,F.V v->¬Hs (HA (ans (AK.map PA.at_) tr)) Y.wrong v)/\n=zh9 (AK.map PA.at_) (nw AK) l0 tr (mx (AK.map PA.at_)+10)) \/
   (l=3/\J8 tr.length m0/\(∀ v,F.V v->¬Hs (HA (ans (AK.map PA.at_) tr)) m0 v)/\zc4 F AK tw tr TT (tr.length-1)/\∃ tr0 q,tr=tr0.take q/\q<=tr0.length/\tr0.length<=AK.length+145/\n=zh9 (AK.map PA.at_) (nw AK) l0 tr0 (tr.length+1)))
def zH3(e:Ending)(w':World):Prop:=∃ r,e=.returned (.bool r)/\Below B w w'/\(∀ k o,Kp k->w.heap[k]?=some o->w'.heap[k]?=some o) /\
 (r=true->∃ g c tv lv tr ls T X,SrR B w' sb hb g c TK AK tw tv lv tr (asQ AK tr) ls (T++[X])/\T.length=tr.length/\tr.length<=AK.length+144/\F.V (gr F X.t)/\∃ x,x<nw AK/\al x=true/\isW (AK.map PA.at_) (gr F X.t) x) /\
 (r=false->∀ v,F.V v->∀ x,x<nw AK->al x=true->¬isW (AK.map PA.at_) v x)
end
theorem jw3{W:World}{bn bb:Nat}{C D:Array Value}{tn tb:TypeId}(kn:W.heap[bn]?=some (.cells C tn))(hC:C.size=6)(kb:W.heap[bb]?=some (.cells D tb))(hD:D.size=3)(hnb:¬bn=bb)(sq:Nat)(sy st:Bool)(sm m:M3):
  (((((((((W.setCell ⟨bn,0,none⟩ (.int .i64 sq)).setCell ⟨bn,1,none⟩ (.bool sy)).setCell ⟨bn,2,none⟩ (.bool st)).setCell ⟨bn,3,none⟩ (.int .u64 sm.a.toNat)).setCell ⟨bn,4,none⟩ (.int .u64 sm.b.toNat)).setCell ⟨bn,5,none⟩ (.int .u64 sm.c.toNat)).setCell ⟨bb,0,none⟩ (.int .u64 m.a.toNat)).setCell ⟨bb,1,none⟩ (.int .u64 m.b.toNat)).setCell ⟨bb,2,none⟩ (.int .u64 m.c.toNat)).heap[bn]?=some (.cells #[.int .i64 sq,.bool sy,.bool st,.int .u64 sm.a.toNat,.int .u64 sm.b.toNat,.int .u64 sm.c.toNat] tn)/\(((((((((W.setCell ⟨bn,0,none⟩ (.int .i64 sq)).setCell ⟨bn,1,none⟩ (.bool sy)).setCell ⟨bn,2,none⟩ (.bool st)).setCell ⟨bn,3,none⟩ (.int .u64 sm.a.toNat)).setCell ⟨bn,4,none⟩ (.int .u64 sm.b.toNat)).setCell ⟨bn,5,none⟩ (.int .u64 sm.c.toNat)).setCell ⟨bb,0,none⟩ (.int .u64 m.a.toNat)).setCell ⟨bb,1,none⟩ (.int .u64 m.b.toNat)).setCell ⟨bb,2,none⟩ (.int .u64 m.c.toNat)).heap[bb]?=some (.cells #[.int .u64 m.a.toNat,.int .u64 m.b.toNat,.int .u64 m.c.toNat] tb)/\q9 (fun k=>k=bn\/k=bb) W (((((((((W.setCell ⟨bn,0,none⟩ (.int .i64 sq)).setCell ⟨bn,1,none⟩ (.bool sy)).setCell ⟨bn,2,none⟩ (.bool st)).setCell ⟨bn,3,none⟩ (.int .u64 sm.a.toNat)).setCell ⟨bn,4,none⟩ (.int .u64 sm.b.toNat)).setCell ⟨bn,5,none⟩ (.int .u64 sm.c.toNat)).setCell ⟨bb,0,none⟩ (.int .u64 m.a.toNat)).setCell ⟨bb,1,none⟩ (.int .u64 m.b.toNat)).setCell ⟨bb,2,none⟩ (.int .u64 m.c.toNat)):=by
 have h6:∀ v0 v1 v2 v3 v4 v5,(((((C.setIfInBounds 0 v0).setIfInBounds 1 v1).setIfInBounds 2 v2).setIfInBounds 3 v3).setIfInBounds 4 v4).setIfInBounds 5 v5=#[v0,v1,v2,v3,v4,v5]:=by
  intro v0 v1 v2 v3 v4 v5;obtain⟨a,b,c,d,e,f,rfl⟩:∃ a b c d e f,C=#[a,b,c,d,e,f]:=by
   obtain⟨l⟩:=C
   match l,hC with
   | [a,b,c,d,e,f],_=>exact⟨a,b,c,d,e,f,rfl⟩
  rfl
 have h3:∀ v0 v1 v2,((D.setIfInBounds 0 v0).setIfInBounds 1 v1).setIfInBounds 2 v2=#[v0,v1,v2]:=by
  intro v0 v1 v2;obtain⟨a,b,c,rfl⟩:∃ a b c,D=#[a,b,c]:=by
   obtain⟨l⟩:=D
   match l,hD with
   | [a,b,c],_=>exact⟨a,b,c,rfl⟩
  rfl
 have sk:∀ (W:World) (i:Nat) (u:Value),(W.setCell ⟨bb,i,none⟩ u).heap[bn]?=W.heap[bn]?:=fun W i u=>j8 _ _ hnb
 have sk':∀ (W:World) (i:Nat) (u:Value),(W.setCell ⟨bn,i,none⟩ u).heap[bb]?=W.heap[bb]?:=fun W i u=>j8 _ _ (fun e=>hnb e.symm)
 refine⟨?_,?_,?_⟩
 ·rw[<- h6];exact(sk _ _ _).trans ((sk _ _ _).trans ((sk _ _ _).trans (Y4 (Y4 (Y4 (Y4 (Y4 (Y4 kn 0 _) 1 _) 2 _) 3 _) 4 _) 5 _)))
 ·rw[<- h3];exact Y4 (Y4 (Y4 ((sk' _ _ _).trans ((sk' _ _ _).trans ((sk' _ _ _).trans ((sk' _ _ _).trans ((sk' _ _ _).trans ((sk' _ _ _).trans kb)))))) 0 _) 1 _) 2 _
 ·exact(((((((((q9.refl _ W).setCell (p:=⟨bn,0,none⟩) (fun _=>.inl rfl) _).setCell (p:=⟨bn,1,none⟩) (fun _=>.inl rfl) _).setCell (p:=⟨bn,2,none⟩) (fun _=>.inl rfl) _).setCell (p:=⟨bn,3,none⟩) (fun _=>.inl rfl) _).setCell (p:=⟨bn,4,none⟩) (fun _=>.inl rfl) _).setCell (p:=⟨bn,5,none⟩) (fun _=>.inl rfl) _).setCell (p:=⟨bb,0,none⟩) (fun _=>.inr rfl) _).setCell (p:=⟨bb,1,none⟩) (fun _=>.inr rfl) _).setCell (p:=⟨bb,2,none⟩) (fun _=>.inr rfl) _
section
variable{Kp:Nat->Prop}{B:Nat}{w W:World}{sb hb bn bb g:Nat}{c:ThV}{tv lv:Value}{TK:List Z3}{AK:List PA}{tw:List (Nat × Nat)}{F:Fx}{al l0:Nat->Bool}{tr:List St}{ls ls':List (List (BitVec 64))}{TT:List W9}{s0:St}{m0:M3}
def ju8(Kp:Nat->Prop)(B:Nat)(w:World)(sb hb bn bb:Nat)(TK:List Z3)(AK:List PA)(tw:List (Nat × Nat))(F:Fx)(al l0:Nat->Bool)(tr:List St)(ls':List (List (BitVec 64)))(s0:St)(m0:M3)(s:St)(e:Ending)(W':World):Prop :=
 ∃ ok g' c' tv' lv' TT',e=.returned (.bool ok)/\RJ Kp B w sb hb bn bb TK AK tw F al W' s0 m0 g' c' tv' lv' (tr++[s]) ls' TT' l0 /\
  (ok=true->zc4 F AK tw (tr++[s]) TT' (tr++[s]).length) /\
  (ok=false->∃ tr1 s' T X Y,tr++[s]=tr1++[s']/\TT' = T++[X]++[Y]/\zc4 F AK tw (tr++[s]) TT' tr1.length/\J8 (tr++[s]).length Y.wrong/\∀ v,F.V v->¬Hs (HA (ans (AK.map PA.at_) (tr++[s]))) Y.wrong v)
theorem zF3(hP:zF2 F TK AK tw)(hR:RJ Kp B w sb hb bn bb TK AK tw F al W s0 m0 g c tv lv tr ls TT l0)(hGT:zc4 F AK tw tr TT tr.length){s:St}{last:List (BitVec 64)}(hlast:ls[ls.length-1]?=some last)(hls:(if s.q<AK.length then ls++[V6 last (X4 (2^(AK.length-6)) s.q s.yes)] else ls)=ls')
  (hsi:zb4 F (AK.map PA.at_) (nw AK) al (tr++[s]) (ls'.map Z9) l0) (haq:AK.length<=s.q->(s.q-AK.length)/12<TK.length/\(s.q-AK.length)%12<TK.length):
  Calls prog 132 #[.pointer (some ⟨sb,0,none⟩),zh4 s] W (ju8 Kp B w sb hb bn bb TK AK tw F al l0 tr ls' s0 m0 s):=by
 have hA:=hP.a16;obtain⟨h1,h2⟩:=hR.rs.len;obtain⟨T,X,rfl,hTl⟩:=hR.rs.lastT;obtain⟨hG,_,_⟩:=hGT.last hTl;have hq:=hsi.qlt s (by simp);rw[List.length_map] at hq;obtain⟨hxo,hxb⟩:=qX6 hP haq;have hok:=hR.rs.ok hP;refine(qw3 hR.rs.sr s hlast (by omega) hG hP.fx (by have:=hP.far;omega) hP.t12 hP.a16 hP.tw1 (by omega) (by omega) (by omega) (fun x hx=>(hok x hx).1) hxo hxb).mono ?_;rintro e W' ⟨Y,ok,g',c',tv',lv',rfl,hS,hM,ht,hf⟩;obtain⟨kn,nn⟩:=hM.keep hR.kn hR.nn;obtain⟨kb,nb⟩:=hM.keep hR.kb hR.nb;rw[hls] at hS;refine⟨ok,g',c',tv',lv',_,rfl,⟨⟨hS,hsi,by simp;omega,fun t ht=>?_⟩,kn,kb,nn,nb,hR.lo,hR.bl.trans (hR.rs.sr.mvBelow hM),hR.bw,hR.kp.mv hM⟩,fun e=>hGT.snoc hTl (ht e),fun e=>?_⟩
 ·rcases List.mem_append.1 ht with ht|ht
  ·exact hR.rs.aq t ht
  ·rw[List.mem_singleton.1 ht];exact haq
 ·obtain⟨f1,f2⟩:=hf e;rw[zQ9] at f2;exact⟨tr,s,T,X,Y,rfl,rfl,hGT.bad hTl,by rw[List.length_append,List.length_singleton];exact f1,f2⟩
end
section
variable{Kp:Nat->Prop}{B:Nat}{w:World}{sb hb bn bb:Nat}{TK:List Z3}{AK:List PA}{tw:List (Nat × Nat)}{F:Fx}{al:Nat->Bool}
theorem qm6{C0 C rest X:Code}(hC:Tryz.f94.body=some C0)(hS:scopeIn? C0=some C)(hr:findLabel C 3=some rest)(hX:rest=.seq .skip X)(hP:zF2 F TK AK tw){n:Nat}{a:Act}{W:World}(hJ:zi6 Kp B w sb hb bn bb TK AK tw F al 3 n a W):
  X.wp prog (zo9 (fun l' a' w'=>∃ n',n'<n/\zi6 Kp B w sb hb bn bb TK AK tw F al l' n' a' w') (Exit.noGoto (bodyPost prog Tryz.f94 (zH3 Kp B w sb hb TK AK tw F al)))) a W:=by
 obtain rfl:C0=_:=Option.some.inj (hC.symm.trans (rfl:Tryz.f94.body=some _));obtain rfl:C=_:=Option.some.inj (hS.symm.trans (rfl:scopeIn? _=some _));obtain rfl:rest=_:=Option.some.inj (hr.symm.trans (rfl:findLabel _ 3=some _));obtain rfl:=(Code.seq.inj hX).2;obtain⟨⟨sm,u6,u7,u8,u9,u10,u11,u12,u13,u14,u15,u16,u17,u18,u19,u20,u21,u22,u23,u24,u25,u26,u27,u28,u29,u30,u31,u32,u33,u34,u35,u36,u37,u38,u39,u40,u41,u42,u43,u44,u45,u46,u47,u48,u49,u50,rfl⟩,s0,m0,g,c,tv,lv,tr,ls,TT,l0,hR,hcase⟩:=hJ;have hcase:J8 tr.length m0/\(∀ v,F.V v->¬Hs (HA (ans (AK.map PA.at_) tr)) m0 v)/\zc4 F AK tw tr TT (tr.length-1)/\∃ tr0 q,tr=tr0.take q/\q<=tr0.length/\tr0.length<=AK.length+145/\n=zh9 (AK.map PA.at_) (nw AK) l0 tr0 (tr.length+1):=by
  rcases hcase with⟨e,_⟩|⟨e,_⟩|⟨e,_⟩|⟨_,h⟩
  ·simp at e
  ·simp at e
  ·simp at e
  ·exact h
 obtain⟨hm,hbad,hGT,tr0,q,htr,hq0,hl0,hn⟩:=hcase;have b0:=z6 hR.kb 0;have b1:=z6 hR.kb 1;have b2:=z6 hR.kb 2;have HAT:=q8 (qn3 hR.rs.sr m0 hm);unfold M3.val u64 at HAT;have HR:=q8 hR;have HC:=q8 (And.intro hm (And.intro hbad (And.intro hGT (And.intro htr (And.intro hq0 (And.intro hl0 hn))))));clear hC hS hr hX hR hm hbad hGT htr hq0 hl0 hn;go_wp2_with fail;refine HAT.out.mono ?_;rintro e w1 ⟨hx1,r,rfl,hr1,hr2⟩;have hR1:=HR.out.rs.ext hx1;have kb1:=(hx1.block _ (z8 HR.out.kb) (fun f=>f)).trans HR.out.kb;have kn1:=(hx1.block _ (z8 HR.out.kn) (fun f=>f)).trans HR.out.kn;have d0:=z6 kb1 0;have d1:=z6 kb1 1;have d2:=z6 kb1 2;have hlen1:=hR1.len;have HKB:=q8 kb1;have HKN:=q8 kn1;have HX1:=q8 hx1;have HR1:=q8 hR1;have HBL:Hid (Below B w w1):=HR.out.bl.trans (HR.out.rs.sr.below hx1 (fun _ _ f=>f.elim));clear hx1 kb1 kn1 hR1 b0 b1 b2 HAT;cases r with
 | true=>
  have hat:∀ k,m0.has k=true->k<AK.length:=by
   intro k hk;rcases hr1 rfl with hno|⟨p,s,hp,hmax,hps,hsq⟩
   ·rw[hno k] at hk;simp at hk
   ·have h1:=(HR1.out.si.ats p s hps).2 (by rw[List.length_map];exact hsq);rw[List.length_map] at h1;have:=hmax k hk;omega
  have hqq:∀ k,m0.has k=true->∃ s,tr[k]?=some s/\s.q<AK.length:=by intro k hk;have hkl:=HC.out.1 k hk;refine⟨tr[k],List.getElem?_eq_getElem hkl,?_⟩;have:=(HR1.out.si.ats k tr[k] (List.getElem?_eq_getElem hkl)).1 (by rw[List.length_map];exact hat k hk);rw[List.length_map] at this;exact this
  have HEX:=q8 (qm5 HR1.out.sr hqq hP.a16 hlen1.1 (zC7 AK tr) HR1.out.tl (by have:=hP.a16;omega));unfold M3.val u64 at HEX;have HATT:=q8 hat;clear hr1 hr2 hqq hat;go_wp2_with fail;refine HEX.out.mono ?_;rintro e w2 ⟨r2,sm2,rfl,hsl,hss,ht2,hf2⟩;have HSS:=q8 (And.intro hsl hss);have HT2:=q8 ht2;have HF2:=q8 hf2;clear hsl hss ht2 hf2 HEX;cases r2 with
  | true=>
   go_wp2_with fail
   go_step3
   obtain⟨n2,l,x,c',tv',lv',hn2,hln2,hx,hhas,hS2,hM2⟩:=HT2.out (by simp);obtain⟨hm,hbad,hGT,htr,hq0,hl0,hn⟩:=HC.out;obtain⟨hnt,hsi⟩:=HR1.out.cutAt hm HATT.out hbad HSS.out.1 HSS.out.2 hn2 hln2 hx hhas;obtain⟨kn2,nn2⟩:=hM2.keep HKN.out HR.out.nn;obtain⟨kb2,nb2⟩:=hM2.keep HKB.out HR.out.nb;show ∃ n',n'<n/\zi6 Kp B w sb hb bn bb TK AK tw F al 1 n' _ w2;refine⟨_,?_,⟨sm,_,_,_,_,_,_,_,_,_,_,_,_,_,_,_,_,_,_,_,_,_,_,_,_,_,_,_,_,_,_,_,_,_,_,_,_,_,_,_,_,_,_,_,_,_,rfl⟩,s0,m0,g,c',tv',lv',tr.take n2,_,TT.take (n2+1),_,⟨⟨by rw[qm7];exact hS2,hsi,?_,fun s hs=>HR1.out.aq s (List.mem_of_mem_take hs)⟩,kn2,kb2,nn2,nb2,HR.out.lo,HBL.out.trans (HR1.out.sr.mvBelow hM2),HR.out.bw,(HR.out.kp.ext HX1.out).mv hM2⟩,.inl ⟨rfl,hGT.take (by omega) (by omega),rfl⟩⟩
   ·rw[hn];exact qW8 HR1.out.si (by rw[List.length_map];exact HATT.out) (fun y hy=>HSS.out.2 y hy) (fun y hy=>rfl) (by unfold mx;omega) tr0
   ·have:=HR1.out.tl;rw[List.length_take,List.length_take];omega
  | false=>go_wp2_with fail;obtain⟨h1,h2⟩:=HF2.out (by simp);show Exit.noGoto (bodyPost prog Tryz.f94 (zH3 Kp B w sb hb TK AK tw F al)) Exit.ret _ w2;rw[Exit.noGoto_ret];go_ret;exact⟨false,rfl,HBL.out.trans (HR1.out.sr.below h2 (fun _ _ e=>e)),fun k o hk ho=>let ⟨a,b⟩:=(HR.out.kp.ext HX1.out) k o hk ho;(h2.block k (z8 a) b).trans a,fun e=>by simp at e,fun _=>HR1.out.noneLeft HATT.out HC.out.2.1 HSS.out.1 HSS.out.2 h1⟩
 | false=>
  obtain⟨p,⟨sq,sy,st,sbm⟩,hp,hmax,hps,hsq⟩:=hr2 rfl;simp only at hsq;have hpl:=(List.getElem?_eq_some_iff.1 hps).1;have htl:=HR1.out.tl;have HUN:=q8 (qw4 HR1.out.sr hp hmax hps (by rw[zC7];omega) (by omega) (by omega) (by have:=hP.a16;omega));unfold M3.val u64 zh4 at HUN;simp only at HUN;have HPS:=q8 (And.intro hp (And.intro hmax hps));clear hr1 hr2 hp hmax hps;go_wp2_with fail;refine HUN.out.mono ?_;rintro e w2 ⟨rfl,hlv2⟩;obtain⟨c',tv',lv',hS2,hM2,hx2⟩:=hlv2;obtain⟨kn2,nn2⟩:=hM2.keep HKN.out HR.out.nn;obtain⟨kb2,nb2⟩:=hM2.keep HKB.out HR.out.nb;have x0:=z6 kn2 0;have x1:=z6 kn2 1;have x2:=z6 kn2 2;have x3:=z6 kn2 3;have x4:=z6 kn2 4;have x5:=z6 kn2 5;have xf0:=Q8 kn2 0;have xf1:=Q8 kn2 1;have xf2:=Q8 kn2 2;have xf3:=Q8 kn2 3;have xf4:=Q8 kn2 4;have xf5:=Q8 kn2 5;have y0:=z6 kb2 0;have y1:=z6 kb2 1;have y2:=z6 kb2 2;have yf0:=Q8 kb2 0;have yf1:=Q8 kb2 1;have yf2:=Q8 kb2 2;have hnb:¬bn=bb:=fun e=>by rw[e,kb2] at kn2;simp at kn2
  have hbn':¬bb=bn:=fun e=>hnb e.symm
  obtain⟨pn,pb,px⟩:=jw3 kn2 rfl kb2 rfl hnb sq sy st sbm ((m0.sub (M3.of p)).or sbm);obtain⟨Wf,hWf⟩:∃ Wf,(((((((((w2.setCell ⟨bn,0,none⟩ (.int .i64 (sq:Int))).setCell ⟨bn,1,none⟩ (.bool sy)).setCell ⟨bn,2,none⟩ (.bool st)).setCell ⟨bn,3,none⟩ (.int .u64 sbm.a.toNat)).setCell ⟨bn,4,none⟩ (.int .u64 sbm.b.toNat)).setCell ⟨bn,5,none⟩ (.int .u64 sbm.c.toNat)).setCell ⟨bb,0,none⟩ (.int .u64 ((m0.sub (M3.of p)).or sbm).a.toNat)).setCell ⟨bb,1,none⟩ (.int .u64 ((m0.sub (M3.of p)).or sbm).b.toNat)).setCell ⟨bb,2,none⟩ (.int .u64 ((m0.sub (M3.of p)).or sbm).c.toNat))=Wf:=⟨_,rfl⟩;rw[hWf] at pn pb px;have hSf:=hS2.aside px (fun k hk=>⟨fun e=>hk.elim (fun q=>nn2 (q▸e)) (fun q=>nb2 (q▸e)),hk.elim (fun q=>⟨_,_,q▸kn2,by decide,by decide,by decide,by decide,by decide⟩) (fun q=>⟨_,_,q▸kb2,by decide,by decide,by decide,by decide,by decide⟩)⟩);have hlo:=HR.out.lo;have hBf:Below B w Wf:=(HBL.out.trans (HR1.out.sr.mvBelow hM2)).trans ⟨px.os,px.tape,px.output,px.size,fun k hk=>px.block k (by have h1:=hS2.bB;omega) (fun e=>by have h2:=HR.out.bw;rcases e with e|e<;>omega)⟩;have HKP:=q8 (((HR.out.kp.ext HX1.out).mv hM2).aside px (fun k hk=>by rcases hk with e|e<;>omega));have HWF:=q8 hWf;have HPN:=q8 pn;have HPB:=q8 pb;have HSF:=q8 hSf;have HBF:=q8 hBf;have HNN:=q8 (And.intro nn2 nb2);clear hS2 hM2 hx2 kn2 kb2 d0 d1 d2 HUN hWf pn pb px hSf hBf nn2 nb2;obtain⟨hm,hbad,hGT,htr,hq0,hl0,hn⟩:=HC.out;obtain⟨hp,hmax,hps⟩:=HPS.out;obtain⟨bl1,bl2,bl3⟩:=zP9 HR1.out.si hbad hps hmax;have hlv:=HR1.out.si.leave p (by omega);rw[List.length_map,<- List.map_take] at hlv;have htp:(tr.take p).length=p:=by rw[List.length_take];omega
  have hRp:RJ Kp B w sb hb bn bb TK AK tw F al Wf ⟨sq,sy,st,sbm⟩ ((m0.sub (M3.of p)).or sbm) g c' tv' lv' (tr.take p) (ls.take (min p AK.length+1)) (TT.take (p+1)) l0:=⟨⟨by rw[qm7];exact HSF.out,hlv,by rw[List.length_take,htp];omega,fun s hs=>HR1.out.aq s (List.mem_of_mem_take hs)⟩,HPN.out,HPB.out,HNN.out.1,HNN.out.2,HR.out.lo,HBF.out,HR.out.bw,HKP.out⟩;have hG2:zc4 F AK tw (tr.take p) (TT.take (p+1)) (tr.take p).length:=hGT.take (by omega) (by omega);have htq:tr.take p=tr0.take p:=by rw[htr,List.take_take,Nat.min_eq_left];have:=congrArg List.length htr;rw[List.length_take] at this;omega
  have hp0:tr0[p]?=some ⟨sq,sy,st,sbm⟩:=by rw[htr] at hps;exact(U8 hps).2
  have haq:=HR1.out.aq _ (List.mem_of_getElem? hps);have HRP:=q8 hRp;have HG2:=q8 hG2;have HTQ:=q8 htq;have HP0:=q8 hp0;have HAQ:=q8 haq;have HB:=q8 (And.intro bl1 (And.intro bl2 bl3));have HTP:=q8 htp;have HSI:=q8 (HR1.out.siTurn hbad hps hmax hsq);clear hm hbad hGT htr hq0 hl0 hn hp hmax hps bl1 bl2 bl3 hlv htp hRp hG2 htq hp0 haq;cases st with
  | true=>
   go_wp2_with fail
   go_step3
   rw[HWF.out];show ∃ n',n'<n/\zi6 Kp B w sb hb bn bb TK AK tw F al 3 n' _ Wf;obtain⟨hm,hbad,hGT,htr,hq0,hl0,hn⟩:=HC.out;have htp:=HTP.out;refine⟨_,?_,⟨sm,_,_,_,_,_,_,_,_,_,_,_,_,_,_,_,_,_,_,_,_,_,_,_,_,_,_,_,_,_,_,_,_,_,_,_,_,_,_,_,_,_,_,_,_,_,rfl⟩,_,_,g,c',tv',lv',_,_,_,l0,HRP.out,.inr (.inr (.inr ⟨rfl,by rw[htp];exact HB.out.1,HB.out.2.2 (by simp),fun k Z hk hZ=>HG2.out k Z (by omega) hZ,tr0,p,HTQ.out,by have:=(List.getElem?_eq_some_iff.1 HP0.out).1;omega,hl0,rfl⟩))⟩;rw[hn,htp];exact qu7 (by omega)
  | false=>
   have hsiT:=HSI.out;obtain⟨last,hlast,_,_⟩:=HRP.out.rs.last;have HTK:=q8 (zF3 (s:=⟨sq,!sy,true,(m0.sub (M3.of p)).or sbm⟩) hP HRP.out HG2.out hlast (if_neg (by show ¬sq<AK.length;omega)) hsiT HAQ.out);unfold zh4 at HTK;simp only at HTK;clear hsiT hlast;go_wp2_with fail;rw[HWF.out];refine HTK.out.mono ?_;rintro e w3 ⟨ok,g3,c3,tv3,lv3,TT3,rfl,hR3,ht3,hf3⟩;have HR3:=q8 hR3;have HT3:=q8 ht3;have HF3:=q8 hf3;clear hR3 ht3 hf3 HTK;cases ok with
   | true=>
    go_wp2_with fail
    go_step3
    show ∃ n',n'<n/\zi6 Kp B w sb hb bn bb TK AK tw F al 1 n' _ w3;obtain⟨hm,hbad,hGT,htr,hq0,hl0,hn⟩:=HC.out;refine⟨_,?_,⟨sm,_,_,_,_,_,_,_,_,_,_,_,_,_,_,_,_,_,_,_,_,_,_,_,_,_,_,_,_,_,_,_,_,_,_,_,_,_,_,_,_,_,_,_,_,_,rfl⟩,_,_,_,_,_,_,_,_,_,l0,HR3.out,.inl ⟨rfl,HT3.out (by simp),rfl⟩⟩;rw[hn,HTQ.out];exact zX0 (by rw[List.length_map];exact hl0) HP0.out rfl rfl (by unfold mx;omega)
   | false=>
    go_wp2_with fail
    go_step3
    show ∃ n',n'<n/\zi6 Kp B w sb hb bn bb TK AK tw F al 2 n' _ w3;obtain⟨hm,hbad,hGT,htr,hq0,hl0,hn⟩:=HC.out;refine⟨_,?_,⟨sm,_,_,_,_,_,_,_,_,_,_,_,_,_,_,_,_,_,_,_,_,_,_,_,_,_,_,_,_,_,_,_,_,_,_,_,_,_,_,_,_,_,_,_,_,_,rfl⟩,_,_,_,_,_,_,_,_,_,l0,HR3.out,.inr (.inr (.inl ⟨rfl,HF3.out (by simp),rfl⟩))⟩;rw[hn,HTQ.out];exact zX0 (by rw[List.length_map];exact hl0) HP0.out rfl rfl (by unfold mx;omega)
end
theorem zy1{J J':Nat->Act->World->Prop}{Q:Exit->Act->World->Prop}(h:∀ l a w,J l a w->J' l a w):∀ e a w,zo9 J Q e a w->zo9 J' Q e a w:=by
 intro e a w hq;cases e with
 | goto l=>exact h l a w hq
 | _=>exact hq
theorem jw4{W:World}{bb:Nat}{D:Array Value}{tb:TypeId}(kb:W.heap[bb]?=some (.cells D tb))(hD:D.size=3)(m:M3):
  (((W.setCell ⟨bb,0,none⟩ (.int .u64 m.a.toNat)).setCell ⟨bb,1,none⟩ (.int .u64 m.b.toNat)).setCell ⟨bb,2,none⟩ (.int .u64 m.c.toNat)).heap[bb]?=some (.cells #[.int .u64 m.a.toNat,.int .u64 m.b.toNat,.int .u64 m.c.toNat] tb)/\q9 (fun k=>k=bb) W (((W.setCell ⟨bb,0,none⟩ (.int .u64 m.a.toNat)).setCell ⟨bb,1,none⟩ (.int .u64 m.b.toNat)).setCell ⟨bb,2,none⟩ (.int .u64 m.c.toNat)):=by
 have h3:∀ v0 v1 v2,((D.setIfInBounds 0 v0).setIfInBounds 1 v1).setIfInBounds 2 v2=#[v0,v1,v2]:=by
  intro v0 v1 v2;obtain⟨a,b,c,rfl⟩:∃ a b c,D=#[a,b,c]:=by
   obtain⟨l⟩:=D
   match l,hD with
   | [a,b,c],_=>exact⟨a,b,c,rfl⟩
  rfl
 refine⟨?_,?_⟩
 ·rw[<- h3];exact Y4 (Y4 (Y4 kb 0 _) 1 _) 2 _
 ·exact(((q9.refl (fun k=>k=bb) W).setCell (p:=⟨bb,0,none⟩) (fun _=>rfl) _).setCell (p:=⟨bb,1,none⟩) (fun _=>rfl) _).setCell (p:=⟨bb,2,none⟩) (fun _=>rfl) _
theorem jw5{W:World}{bn:Nat}{C:Array Value}{tn:TypeId}(kn:W.heap[bn]?=some (.cells C tn))(hC:C.size=6)(sq:Nat)(sy st:Bool)(sm:M3):
  ((((((W.setCell ⟨bn,0,none⟩ (.int .i64 sq)).setCell ⟨bn,1,none⟩ (.bool sy)).setCell ⟨bn,2,none⟩ (.bool st)).setCell ⟨bn,3,none⟩ (.int .u64 sm.a.toNat)).setCell ⟨bn,4,none⟩ (.int .u64 sm.b.toNat)).setCell ⟨bn,5,none⟩ (.int .u64 sm.c.toNat)).heap[bn]?=some (.cells #[.int .i64 sq,.bool sy,.bool st,.int .u64 sm.a.toNat,.int .u64 sm.b.toNat,.int .u64 sm.c.toNat] tn)/\q9 (fun k=>k=bn) W ((((((W.setCell ⟨bn,0,none⟩ (.int .i64 sq)).setCell ⟨bn,1,none⟩ (.bool sy)).setCell ⟨bn,2,none⟩ (.bool st)).setCell ⟨bn,3,none⟩ (.int .u64 sm.a.toNat)).setCell ⟨bn,4,none⟩ (.int .u64 sm.b.toNat)).setCell ⟨bn,5,none⟩ (.int .u64 sm.c.toNat)):=by
 have h6:∀ v0 v1 v2 v3 v4 v5,(((((C.setIfInBounds 0 v0).setIfInBounds 1 v1).setIfInBounds 2 v2).setIfInBounds 3 v3).setIfInBounds 4 v4).setIfInBounds 5 v5=#[v0,v1,v2,v3,v4,v5]:=by
  intro v0 v1 v2 v3 v4 v5;obtain⟨a,b,c,d,e,f,rfl⟩:∃ a b c d e f,C=#[a,b,c,d,e,f]:=by
   obtain⟨l⟩:=C
   match l,hC with
   | [a,b,c,d,e,f],_=>exact⟨a,b,c,d,e,f,rfl⟩
  rfl
 refine⟨?_,?_⟩
 ·rw[<- h6];exact Y4 (Y4 (Y4 (Y4 (Y4 (Y4 kn 0 _) 1 _) 2 _) 3 _) 4 _) 5 _
 ·exact((((((q9.refl (fun k=>k=bn) W).setCell (p:=⟨bn,0,none⟩) (fun _=>rfl) _).setCell (p:=⟨bn,1,none⟩) (fun _=>rfl) _).setCell (p:=⟨bn,2,none⟩) (fun _=>rfl) _).setCell (p:=⟨bn,3,none⟩) (fun _=>rfl) _).setCell (p:=⟨bn,4,none⟩) (fun _=>rfl) _).setCell (p:=⟨bn,5,none⟩) (fun _=>rfl) _
section
variable{Kp:Nat->Prop}{B:Nat}{w:World}{sb hb bn bb:Nat}{TK:List Z3}{AK:List PA}{tw:List (Nat × Nat)}{F:Fx}{al:Nat->Bool}
theorem zC8{C0 C rest X:Code}(hC:Tryz.f94.body=some C0)(hS:scopeIn? C0=some C)(hr:findLabel C 2=some rest)(hX:rest=.seq .skip X)(hP:zF2 F TK AK tw){n:Nat}{a:Act}{W:World}(hJ:zi6 Kp B w sb hb bn bb TK AK tw F al 2 n a W):
  X.wp prog (zo9 (fun l' a' w'=>∃ n',n'<n/\zi6 Kp B w sb hb bn bb TK AK tw F al l' n' a' w') (Exit.noGoto (bodyPost prog Tryz.f94 (zH3 Kp B w sb hb TK AK tw F al)))) a W:=by
 have hback:=fun rest (hr:findLabel C 3=some rest) X (hX:rest=.seq .skip X) n a W=>qm6 (Kp:=Kp) (B:=B) (w:=w) (sb:=sb) (hb:=hb) (bn:=bn) (bb:=bb) (al:=al) (rest:=rest) (X:=X) (n:=n) (a:=a) (W:=W) hC hS hr hX hP
 obtain rfl:C0=_:=Option.some.inj (hC.symm.trans (rfl:Tryz.f94.body=some _));obtain rfl:C=_:=Option.some.inj (hS.symm.trans (rfl:scopeIn? _=some _));obtain rfl:rest=_:=Option.some.inj (hr.symm.trans (rfl:findLabel _ 2=some _));obtain rfl:=(Code.seq.inj hX).2;have hb3:=hback _ rfl _ rfl;clear hback hC hS hr hX;obtain⟨⟨sm,u6,u7,u8,u9,u10,u11,u12,u13,u14,u15,u16,u17,u18,u19,u20,u21,u22,u23,u24,u25,u26,u27,u28,u29,u30,u31,u32,u33,u34,u35,u36,u37,u38,u39,u40,u41,u42,u43,u44,u45,u46,u47,u48,u49,u50,rfl⟩,s0,m0,g,c,tv,lv,tr,ls,TT,l0,hR,hcase⟩:=hJ;have hc:(∃ tr1 s T X Y,tr=tr1++[s]/\TT=T++[X]++[Y]/\zc4 F AK tw tr TT tr1.length/\J8 tr.length Y.wrong/\∀ v,F.V v->¬Hs (HA (ans (AK.map PA.at_) tr)) Y.wrong v)/\n=zh9 (AK.map PA.at_) (nw AK) l0 tr (mx (AK.map PA.at_)+10):=by
  rcases hcase with⟨e,_⟩|⟨e,_⟩|⟨_,h⟩|⟨e,_⟩
  ·simp at e
  ·simp at e
  ·exact h
  ·simp at e
 clear hcase;obtain⟨⟨tr1,s1,T,X,Y,htr,rfl,hGT,hbl,hbad⟩,hn⟩:=hc;have hlen:=hR.rs.len;have htl:=hR.rs.tl;have hA:=hP.a16;have hbox:∃ w',(fun a w'=>True)=(fun(a:Act) (w':World)=>True):=⟨(),rfl⟩;refine wp_seq ?_;have HB3:=q8 hb3;have HBL:=q8 (qn5 hR.rs.sr (by simp at htl ⊢;omega));unfold M3.val u64 at HBL;have HR:=q8 hR;have HC:=q8 (And.intro htr (And.intro hGT (And.intro hbl (And.intro hbad hn))));clear hb3 hR htr hGT hbl hbad hn hbox
 suffices H:∀ K:Act->World->Prop,(∀ a' w',(∃ n',n'<n/\zi6 Kp B w sb hb bn bb TK AK tw F al 3 n' a' w')->K a' w')->Code.wp prog _ (Exit.then K (zo9 (fun l' a' w'=>∃ n',n'<n/\zi6 Kp B w sb hb bn bb TK AK tw F al l' n' a' w') (Exit.noGoto (bodyPost prog Tryz.f94 (zH3 Kp B w sb hb TK AK tw F al))))) _ W by refine H _ ?_;rintro a' w' ⟨n',hn',hJ'⟩;refine wp_seq (wp_label ?_);exact wp_mono (HB3.out n' a' w' hJ') (zy1 fun l a w ⟨n2,h2,h3⟩=>⟨n2,Nat.lt_trans h2 hn',h3⟩)
 clear HB3;intro K hK;have HK:=q8 hK;clear hK;go_wp2_with fail;refine HBL.out.mono ?_;rintro e w1 ⟨rfl,hx1⟩;have hR1:=HR.out.rs.ext hx1;have kb1:=(hx1.block _ (z8 HR.out.kb) (fun f=>f)).trans HR.out.kb;have kn1:=(hx1.block _ (z8 HR.out.kn) (fun f=>f)).trans HR.out.kn;have hbl1:Below B w w1:=HR.out.bl.trans (HR.out.rs.sr.below hx1 (fun _ _ f=>f.elim));obtain⟨pb,px⟩:=jw4 kb1 rfl Y.wrong;obtain⟨Wf,hWf⟩:∃ Wf,(((w1.setCell ⟨bb,0,none⟩ (.int .u64 Y.wrong.a.toNat)).setCell ⟨bb,1,none⟩ (.int .u64 Y.wrong.b.toNat)).setCell ⟨bb,2,none⟩ (.int .u64 Y.wrong.c.toNat))=Wf:=⟨_,rfl⟩;rw[hWf] at pb px;have hnb:¬bn=bb:=fun e=>by rw[e,kb1] at kn1;simp at kn1
 have pn:=(px.block _ (z8 kn1) hnb).trans kn1;have hSf:=hR1.sr.aside px (fun k hk=>⟨fun e=>HR.out.nb (hk▸e),⟨_,_,hk▸kb1,by decide,by decide,by decide,by decide,by decide⟩⟩);have hRf:RJ Kp B w sb hb bn bb TK AK tw F al Wf s0 Y.wrong g c tv lv tr ls (T++[X]++[Y]) l0:=⟨⟨hSf,hR1.si,hR1.tl,hR1.aq⟩,pn,pb,HR.out.nn,HR.out.nb,HR.out.lo,hbl1.trans ⟨px.os,px.tape,px.output,px.size,fun k hk=>px.block k (by have h1:=hR1.sr.bB;omega) (fun e=>by have h2:=HR.out.bw;have h3:=HR.out.lo.2;omega)⟩,HR.out.bw,(HR.out.kp.ext hx1).aside px (fun k hk=>by have h3:=HR.out.lo.2;omega)⟩;have HRF:=q8 hRf;have HWF:=q8 hWf;have y0:=z6 kb1 0;have y1:=z6 kb1 1;have y2:=z6 kb1 2;have yf0:=Q8 kb1 0;have yf1:=Q8 kb1 1;have yf2:=Q8 kb1 2;clear hRf hSf pn pb px hbl1 hR1 kb1 kn1 hWf hx1 HBL;go_wp2_with fail;rw[HWF.out];obtain⟨htr,hGT,hbl,hbad,hn⟩:=HC.out;refine HK.out _ _ ⟨_,?_,⟨sm,_,_,_,_,_,_,_,_,_,_,_,_,_,_,_,_,_,_,_,_,_,_,_,_,_,_,_,_,_,_,_,_,_,_,_,_,_,_,_,_,_,_,_,_,_,rfl⟩,_,_,_,_,_,_,_,_,_,l0,HRF.out,.inr (.inr (.inr ⟨rfl,hbl,hbad,fun k Z hk hZ=>hGT k Z (by rw[htr] at hk;simp at hk;omega) hZ,tr,tr.length,(List.take_length).symm,Nat.le_refl _,by omega,rfl⟩))⟩;rw[hn];exact qu7 (by unfold mx;rw[List.length_map];omega)
end
section
variable{Kp:Nat->Prop}{B:Nat}{w W:World}{sb hb bn bb:Nat}{TK:List Z3}{AK:List PA}{tw:List (Nat × Nat)}{F:Fx}{al l0:Nat->Bool}{g:Nat}{c:ThV}{tv lv:Value}{tr:List St}{ls:List (List (BitVec 64))}{T TT:List W9}{X:W9}{s0:St}{m0:M3}
theorem zi5.siNew{last:List (BitVec 64)}{s:St}(h:zi5 B W sb hb TK AK tw F al g c tv lv tr ls TT l0)(hP:zF2 F TK AK tw)(hG:ThG F (asQ AK tr) X)(hlast:ls[ls.length-1]?=some last)(hlen:last.length=2^(AK.length-6))(hs:jj4 AK.length tr last s\/(s.yes=true/\s.turned=false/\s.blame=M3.none/\(∀ a,a<AK.length->a∈tr.map (·.q))/\∃ o p,s.q=AK.length+o*12+p/\o<TK.length/\p<TK.length/\gr F X.t o=gr F X.t p/\0<X.t.by_ p o)):
  ∃ ls',(if s.q<AK.length then ls++[V6 last (X4 (2^(AK.length-6)) s.q s.yes)] else ls)=ls'/\zb4 F (AK.map PA.at_) (nw AK) al (tr++[s]) (ls'.map Z9) l0/\(AK.length<=s.q->(s.q-AK.length)/12<TK.length/\(s.q-AK.length)%12<TK.length):=by
 rcases hs with hs|⟨_,h2,h3,h4,o,p,h5,h6,h7,h8,h9⟩
 ·refine⟨_,rfl,?_,fun e=>absurd e (by have:=hs.lt;omega)⟩;rw[if_pos hs.lt];exact h.siAtom hlast hlen hs
 ·obtain⟨n1,n2,n3,n4⟩:=jw2 hP hG h6 h7 h8 h9;rw[<- h5] at n1 n2 n3 n4;refine⟨_,rfl,?_,fun _=>by rw[n3,n4];exact⟨h6,h7⟩⟩;rw[if_neg (by omega)];exact h.siSplit h4 (by omega) n2 n1 h2 h3
theorem RJ.putN{W1:World}(hR:RJ Kp B w sb hb bn bb TK AK tw F al W s0 m0 g c tv lv tr ls TT l0)(hx:q9 (fun _=>False) W W1)(s:St):RJ Kp B w sb hb bn bb TK AK tw F al ((((((W1.setCell ⟨bn,0,none⟩ (.int .i64 s.q)).setCell ⟨bn,1,none⟩ (.bool s.yes)).setCell ⟨bn,2,none⟩ (.bool s.turned)).setCell ⟨bn,3,none⟩ (.int .u64 s.blame.a.toNat)).setCell ⟨bn,4,none⟩ (.int .u64 s.blame.b.toNat)).setCell ⟨bn,5,none⟩ (.int .u64 s.blame.c.toNat)) s m0 g c tv lv tr ls TT l0:=by
 have hR1:=hR.rs.ext hx;have kb1:=(hx.block _ (z8 hR.kb) (fun f=>f)).trans hR.kb;have kn1:=(hx.block _ (z8 hR.kn) (fun f=>f)).trans hR.kn;have hbl1:Below B w W1:=hR.bl.trans (hR.rs.sr.below hx (fun _ _ f=>f.elim));obtain⟨pn,px⟩:=jw5 kn1 rfl s.q s.yes s.turned s.blame;have hnb:¬bb=bn:=fun e=>by rw[e,kn1] at kb1;simp at kb1
 have pb:=(px.block _ (z8 kb1) hnb).trans kb1;have hSf:=hR1.sr.aside px (fun k hk=>⟨fun e=>hR.nn (hk▸e),⟨_,_,hk▸kn1,by decide,by decide,by decide,by decide,by decide⟩⟩);exact⟨⟨hSf,hR1.si,hR1.tl,hR1.aq⟩,pn,pb,hR.nn,hR.nb,hR.lo,hbl1.trans ⟨px.os,px.tape,px.output,px.size,fun k hk=>px.block k (by have h1:=hR1.sr.bB;omega) (fun e=>by have h2:=hR.bw;have h3:=hR.lo.1;omega)⟩,hR.bw,(hR.kp.ext hx).aside px (fun k hk=>by have h3:=hR.lo.1;omega)⟩
theorem RJ.stand(hR:RJ Kp B w sb hb bn bb TK AK tw F al W s0 m0 g c tv lv tr ls (T++[X]) l0)(hP:zF2 F TK AK tw)(hT:T.length=tr.length)(hGT:zc4 F AK tw tr (T++[X]) tr.length)(hop:∀ a,a<AK.length->a∈tr.map (·.q))(htr:∀ x∈Y8 (asQ AK tr),x.1.tr (gr F X.t)=x.2)(htw:∀ p∈tw,gr F X.t p.1=gr F X.t p.2\/(∃ q∈F.prs p,gr F X.t q.1≠gr F X.t q.2)\/∀ q∈F.prs p,X.t.by_ q.1 q.2<=0/\X.t.by_ q.2 q.1<=0):zH3 Kp B w sb hb TK AK tw F al (.returned (.bool true)) W:=by
 obtain⟨hG,_,hM⟩:=hGT.last hT;obtain⟨_,h2⟩:=hR.rs.len;rw[zQ9] at htr;refine⟨true,rfl,hR.bl,fun k o hk ho=>(hR.kp k o hk ho).1,fun _=>⟨g,c,tv,lv,tr,ls,T,X,hR.rs.sr,hT,h2,?_,hR.rs.si.stands (by rw[List.length_map];exact hop) htr⟩,fun e=>by simp at e⟩;refine ji0 hG.inv hG.nums hP.fok ?_ (by rw[hP.fx.ftw];exact htw);rw[hP.fx.ftw];intro p hp;refine hM ?_ p hp;rcases Nat.eq_zero_or_pos tr.length with e|e
 ·exfalso;have h0:AK=[]:=by
   rcases AK with _|⟨x,l⟩
   ·rfl
   ·have:=hop 0 (by simp);rw[List.eq_nil_of_length_eq_zero e] at this;simp at this
  rw[hP.te h0] at hp;simp at hp
 ·exact e
theorem qv5{C0 C rest X:Code}(hC:Tryz.f94.body=some C0)(hS:scopeIn? C0=some C)(hr:findLabel C 0=some rest)(hX:rest=.seq .skip X)(hP:zF2 F TK AK tw){n:Nat}{a:Act}{W:World}(hJ:zi6 Kp B w sb hb bn bb TK AK tw F al 0 n a W):
  X.wp prog (zo9 (fun l' a' w'=>∃ n',n'<n/\zi6 Kp B w sb hb bn bb TK AK tw F al l' n' a' w') (Exit.noGoto (bodyPost prog Tryz.f94 (zH3 Kp B w sb hb TK AK tw F al)))) a W:=by
 have hcon:=fun rest (hr:findLabel C 2=some rest) X (hX:rest=.seq .skip X) n a W=>zC8 (Kp:=Kp) (B:=B) (w:=w) (sb:=sb) (hb:=hb) (bn:=bn) (bb:=bb) (al:=al) (rest:=rest) (X:=X) (n:=n) (a:=a) (W:=W) hC hS hr hX hP
 obtain rfl:C0=_:=Option.some.inj (hC.symm.trans (rfl:Tryz.f94.body=some _));obtain rfl:C=_:=Option.some.inj (hS.symm.trans (rfl:scopeIn? _=some _));obtain rfl:rest=_:=Option.some.inj (hr.symm.trans (rfl:findLabel _ 0=some _));obtain rfl:=(Code.seq.inj hX).2;have hb2:=hcon _ rfl _ rfl;clear hcon hC hS hr hX;obtain⟨Q,hQ⟩:∃ Q,(zo9 (fun l' a' w'=>∃ n',n'<n/\zi6 Kp B w sb hb bn bb TK AK tw F al l' n' a' w') (Exit.noGoto (bodyPost prog Tryz.f94 (zH3 Kp B w sb hb TK AK tw F al))))=Q:=⟨_,rfl⟩;rw[hQ];refine wp_seq_k fun K1 hK1=>?_
 have hK1':=fun a v (h:∀ K,(∀ a w',(∃ n',n'<n/\zi6 Kp B w sb hb bn bb TK AK tw F al 2 n' a w')->K a w')->Code.wp prog _ (Exit.then K Q) a v)=>hK1 a v (wp_seq (h _ (by rintro a' w' ⟨n',hn',hJ'⟩;refine wp_seq (wp_label ?_);rw[<- hQ];exact wp_mono (hb2 n' a' w' hJ') (zy1 fun l a w ⟨n2,h2,h3⟩=>⟨n2,Nat.lt_trans h2 hn',h3⟩))))
 have HK1:=q8 hK1';clear hK1 hK1' hb2;have HQ:=q8 hQ;clear hQ;obtain⟨⟨sm,u6,u7,u8,u9,u10,u11,u12,u13,u14,u15,u16,u17,u18,u19,u20,u21,u22,u23,u24,u25,u26,u27,u28,u29,u30,u31,u32,u33,u34,u35,u36,u37,u38,u39,u40,u41,u42,u43,u44,u45,u46,u47,u48,u49,u50,rfl⟩,s0,m0,g,c,tv,lv,tr,ls,TT,l0,hR,hcase⟩:=hJ;have hc:zc4 F AK tw tr TT tr.length/\n=zh9 (AK.map PA.at_) (nw AK) l0 tr 1:=by
  rcases hcase with⟨e,_⟩|⟨_,h⟩|⟨e,_⟩|⟨e,_⟩
  ·simp at e
  ·exact h
  ·simp at e
  ·simp at e
 clear hcase;obtain⟨hGT,hn⟩:=hc;obtain⟨h1,h2⟩:=hR.rs.len;obtain⟨T,X,rfl,hTl⟩:=hR.rs.lastT;obtain⟨hG,hPt,_⟩:=hGT.last hTl;obtain⟨last,hlast,hll,hex⟩:=hR.rs.last;have hok:=hR.rs.ok hP;have hA:=hP.a16;have HCH:=q8 (qc8 hR.rs.sr (by omega) hlast (by omega) hex hG hPt hP.fx hP.far hP.t12 hP.a16 hP.tw1 (by omega) (by rw[zC7];omega) (fun x hx=>(hok x hx).1) (fun x hx=>(hok x hx).2));have HR:=q8 hR;have HL:=q8 (And.intro hlast hll);have HC:=q8 (And.intro hGT (And.intro hn (And.intro hTl hG)));clear hR hGT hn hTl hG hPt hlast hll hex hok;go_wp2_with fail;refine HCH.out.mono ?_;rintro e w1 ⟨s,some,rfl,hx1,hs1,hs2⟩;have HRF:=q8 (HR.out.putN hx1 s);have kn1:=(hx1.block _ (z8 HR.out.kn) (fun f=>f)).trans HR.out.kn;have HS1:=q8 hs1;have HS2:=q8 hs2;have y0:=z6 kn1 0;have y1:=z6 kn1 1;have y2:=z6 kn1 2;have y3:=z6 kn1 3;have y4:=z6 kn1 4;have y5:=z6 kn1 5;have yf0:=Q8 kn1 0;have yf1:=Q8 kn1 1;have yf2:=Q8 kn1 2;have yf3:=Q8 kn1 3;have yf4:=Q8 kn1 4;have yf5:=Q8 kn1 5;obtain⟨Wf,hWf⟩:∃ Wf,((((((w1.setCell ⟨bn,0,none⟩ (.int .i64 s.q)).setCell ⟨bn,1,none⟩ (.bool s.yes)).setCell ⟨bn,2,none⟩ (.bool s.turned)).setCell ⟨bn,3,none⟩ (.int .u64 s.blame.a.toNat)).setCell ⟨bn,4,none⟩ (.int .u64 s.blame.b.toNat)).setCell ⟨bn,5,none⟩ (.int .u64 s.blame.c.toNat))=Wf:=⟨_,rfl⟩;rw[hWf] at HRF;have HWF:=q8 hWf;clear kn1 hx1 hs1 hs2 HCH hWf;unfold zh4;cases some with
 | false=>go_wp2_with fail;rw[HWF.out,<- HQ.out];show Exit.noGoto (bodyPost prog Tryz.f94 (zH3 Kp B w sb hb TK AK tw F al)) Exit.ret _ Wf;rw[Exit.noGoto_ret];go_ret;obtain⟨hGT,_,hTl,_⟩:=HC.out;obtain⟨o1,o2,o3⟩:=HS2.out (by simp);exact HRF.out.stand hP hTl hGT o1 o2 o3
 | true=>
  go_wp2_with fail;rw[HWF.out];refine HK1.out _ _ ?_;intro K hK;have HK:=q8 hK;obtain⟨hGT,hn,hTl,hG⟩:=HC.out;obtain⟨hlast,hll⟩:=HL.out;obtain⟨ls',hls',hsi,haq⟩:=HRF.out.rs.siNew hP hG hlast hll (HS1.out (by simp));have HTK:=q8 (zF3 hP HRF.out hGT hlast hls' hsi haq);unfold zh4 at HTK;have kn2:=HRF.out.kn;have z0:=z6 kn2 0;have z1:=z6 kn2 1;have z2:=z6 kn2 2;have z3:=z6 kn2 3;have z4:=z6 kn2 4;have z5:=z6 kn2 5;clear hK kn2 hGT hn hTl hG hlast hll hsi haq hls' y0 y1 y2 y3 y4 y5 yf0 yf1 yf2 yf3 yf4 yf5 HK1;go_wp2_with fail;refine HTK.out.mono ?_;rintro e w3 ⟨ok,g3,c3,tv3,lv3,TT3,rfl,hR3,ht3,hf3⟩;have HR3:=q8 hR3;have HT3:=q8 ht3;have HF3:=q8 hf3;clear hR3 ht3 hf3 HTK;cases ok with
  | true=>
   go_wp2_with fail
   go_step3
   rw[<- HQ.out];show ∃ n',n'<n/\zi6 Kp B w sb hb bn bb TK AK tw F al 1 n' _ w3;obtain⟨hGT,hn,hTl,hG⟩:=HC.out;refine⟨_,?_,⟨true,_,_,_,_,_,_,_,_,_,_,_,_,_,_,_,_,_,_,_,_,_,_,_,_,_,_,_,_,_,_,_,_,_,_,_,_,_,_,_,_,_,_,_,_,_,rfl⟩,_,_,_,_,_,_,_,_,_,l0,HR3.out,.inl ⟨rfl,HT3.out (by simp),rfl⟩⟩;rw[hn];exact zv0 s (by rw[List.length_map];omega) (by unfold mx;omega)
  | false=>go_wp2_with fail;obtain⟨hGT,hn,hTl,hG⟩:=HC.out;refine HK.out _ _ ⟨_,?_,⟨true,_,_,_,_,_,_,_,_,_,_,_,_,_,_,_,_,_,_,_,_,_,_,_,_,_,_,_,_,_,_,_,_,_,_,_,_,_,_,_,_,_,_,_,_,_,rfl⟩,_,_,_,_,_,_,_,_,_,l0,HR3.out,.inr (.inr (.inl ⟨rfl,HF3.out (by simp),rfl⟩))⟩;rw[hn];exact zv0 s (by rw[List.length_map];omega) (by unfold mx;omega)
end
section
variable{Kp:Nat->Prop}{B:Nat}{w:World}{sb hb bn bb:Nat}{TK:List Z3}{AK:List PA}{tw:List (Nat × Nat)}{F:Fx}{al:Nat->Bool}
theorem zw6{C0 C rest X:Code}(hC:Tryz.f94.body=some C0)(hS:scopeIn? C0=some C)(hr:findLabel C 1=some rest)(hX:rest=.seq .skip X)(hP:zF2 F TK AK tw){n:Nat}{a:Act}{W:World}(hJ:zi6 Kp B w sb hb bn bb TK AK tw F al 1 n a W):
  X.wp prog (zo9 (fun l' a' w'=>∃ n',n'<n/\zi6 Kp B w sb hb bn bb TK AK tw F al l' n' a' w') (Exit.noGoto (bodyPost prog Tryz.f94 (zH3 Kp B w sb hb TK AK tw F al)))) a W:=by
 obtain rfl:C0=_:=Option.some.inj (hC.symm.trans (rfl:Tryz.f94.body=some _));obtain rfl:C=_:=Option.some.inj (hS.symm.trans (rfl:scopeIn? _=some _));obtain rfl:rest=_:=Option.some.inj (hr.symm.trans (rfl:findLabel _ 1=some _));obtain rfl:=(Code.seq.inj hX).2;clear hC hS hr hX;obtain⟨Q,hQ⟩:∃ Q,(zo9 (fun l' a' w'=>∃ n',n'<n/\zi6 Kp B w sb hb bn bb TK AK tw F al l' n' a' w') (Exit.noGoto (bodyPost prog Tryz.f94 (zH3 Kp B w sb hb TK AK tw F al))))=Q:=⟨_,rfl⟩;rw[hQ];have HQ:=q8 hQ;clear hQ;obtain⟨⟨sm,u6,u7,u8,u9,u10,u11,u12,u13,u14,u15,u16,u17,u18,u19,u20,u21,u22,u23,u24,u25,u26,u27,u28,u29,u30,u31,u32,u33,u34,u35,u36,u37,u38,u39,u40,u41,u42,u43,u44,u45,u46,u47,u48,u49,u50,rfl⟩,s0,m0,g,c,tv,lv,tr,ls,TT,l0,hR,hcase⟩:=hJ;have hc:zc4 F AK tw tr TT tr.length/\n=zh9 (AK.map PA.at_) (nw AK) l0 tr 2:=by
  rcases hcase with⟨_,h⟩|⟨e,_⟩|⟨e,_⟩|⟨e,_⟩
  ·exact h
  ·simp at e
  ·simp at e
  ·simp at e
 clear hcase;obtain⟨hGT,hn⟩:=hc;obtain⟨h1,h2⟩:=hR.rs.len;obtain⟨T,X,rfl,hTl⟩:=hR.rs.lastT;obtain⟨hG,hPt,_⟩:=hGT.last hTl;obtain⟨last,hlast,hll,hex⟩:=hR.rs.last;have hok:=hR.rs.ok hP;have hA:=hP.a16;have HCH:=q8 (qc7 hR.rs.sr (by omega) hP.a16 hlast (by omega) hex);have HR:=q8 hR;have HL:=q8 (And.intro hlast hll);have HC:=q8 (And.intro hGT (And.intro hn (And.intro hTl hG)));clear hR hGT hn hTl hG hPt hlast hll hex hok;go_wp2_with fail;refine HCH.out.mono ?_;rintro e w1 ⟨s,some,rfl,hx1,hs1⟩;have HRF:=q8 (HR.out.putN hx1 s);have kn1:=(hx1.block _ (z8 HR.out.kn) (fun f=>f)).trans HR.out.kn;have HS1:=q8 hs1;have y0:=z6 kn1 0;have y1:=z6 kn1 1;have y2:=z6 kn1 2;have y3:=z6 kn1 3;have y4:=z6 kn1 4;have y5:=z6 kn1 5;have yf0:=Q8 kn1 0;have yf1:=Q8 kn1 1;have yf2:=Q8 kn1 2;have yf3:=Q8 kn1 3;have yf4:=Q8 kn1 4;have yf5:=Q8 kn1 5;obtain⟨Wf,hWf⟩:∃ Wf,((((((w1.setCell ⟨bn,0,none⟩ (.int .i64 s.q)).setCell ⟨bn,1,none⟩ (.bool s.yes)).setCell ⟨bn,2,none⟩ (.bool s.turned)).setCell ⟨bn,3,none⟩ (.int .u64 s.blame.a.toNat)).setCell ⟨bn,4,none⟩ (.int .u64 s.blame.b.toNat)).setCell ⟨bn,5,none⟩ (.int .u64 s.blame.c.toNat))=Wf:=⟨_,rfl⟩;rw[hWf] at HRF;have HWF:=q8 hWf;clear kn1 hx1 hs1 HCH hWf;unfold zh4;cases some with
 | false=>
  go_wp2_with fail
  go_step3
  rw[HWF.out,<- HQ.out];show ∃ n',n'<n/\zi6 Kp B w sb hb bn bb TK AK tw F al 0 n' _ Wf;obtain⟨hGT,hn,hTl,hG⟩:=HC.out;refine⟨_,?_,⟨false,_,_,_,_,_,_,_,_,_,_,_,_,_,_,_,_,_,_,_,_,_,_,_,_,_,_,_,_,_,_,_,_,_,_,_,_,_,_,_,_,_,_,_,_,_,rfl⟩,_,_,_,_,_,_,_,_,_,l0,HRF.out,.inr (.inl ⟨rfl,hGT,rfl⟩)⟩;rw[hn];exact qu7 (by omega)
 | true=>
  obtain⟨hGT,hn,hTl,hG⟩:=HC.out;obtain⟨hlast,hll⟩:=HL.out;obtain⟨ls',hls',hsi,haq⟩:=HRF.out.rs.siNew hP hG hlast hll (.inl (HS1.out (by simp)));have HTK:=q8 (zF3 hP HRF.out hGT hlast hls' hsi haq);unfold zh4 at HTK;clear hGT hn hTl hG hlast hll hsi haq hls';go_wp2_with fail;rw[HWF.out];refine HTK.out.mono ?_;rintro e w3 ⟨ok,g3,c3,tv3,lv3,TT3,rfl,hR3,ht3,hf3⟩;have HR3:=q8 hR3;have HT3:=q8 ht3;have HF3:=q8 hf3;clear hR3 ht3 hf3 HTK;cases ok with
  | true=>
   go_wp2_with fail
   go_step3
   rw[<- HQ.out];show ∃ n',n'<n/\zi6 Kp B w sb hb bn bb TK AK tw F al 1 n' _ w3;obtain⟨hGT,hn,hTl,hG⟩:=HC.out;refine⟨_,?_,⟨true,_,_,_,_,_,_,_,_,_,_,_,_,_,_,_,_,_,_,_,_,_,_,_,_,_,_,_,_,_,_,_,_,_,_,_,_,_,_,_,_,_,_,_,_,_,rfl⟩,_,_,_,_,_,_,_,_,_,l0,HR3.out,.inl ⟨rfl,HT3.out (by simp),rfl⟩⟩;rw[hn];exact zv0 s (by rw[List.length_map];omega) (by unfold mx;omega)
  | false=>
   go_wp2_with fail
   go_step3
   rw[<- HQ.out];show ∃ n',n'<n/\zi6 Kp B w sb hb bn bb TK AK tw F al 2 n' _ w3;obtain⟨hGT,hn,hTl,hG⟩:=HC.out;refine⟨_,?_,⟨true,_,_,_,_,_,_,_,_,_,_,_,_,_,_,_,_,_,_,_,_,_,_,_,_,_,_,_,_,_,_,_,_,_,_,_,_,_,_,_,_,_,_,_,_,_,rfl⟩,_,_,_,_,_,_,_,_,_,l0,HR3.out,.inr (.inr (.inl ⟨rfl,HF3.out (by simp),rfl⟩))⟩;rw[hn];exact zv0 s (by rw[List.length_map];omega) (by unfold mx;omega)
end
theorem zC9(w:World)(o:Obj):(w.alloc o).heap.size=w.heap.size+1:=by simp
theorem qv6(Q:Exit->Act->World->Prop):∀ e a w,Exit.noGoto Q e a w->Q e a w:=by
 intro e a w h;cases e with
 | goto l=>exact h.elim
 | _=>exact h
section
variable{Kp:Nat->Prop}{B:Nat}{w:World}{sb hb g:Nat}{c:ThV}{tv lv:Value}{TK:List Z3}{AK:List PA}{tw:List (Nat × Nat)}{F:Fx}
theorem qL8{l:List (BitVec 64)}{X:W9}{W:World}(h:SrR B w sb hb g c TK AK tw tv lv [] [] [l] [X])(hKp:∀ k,Kp k->¬SrF sb hb g c tv lv k)(hG:ThG F [] X)(hl:∃ x,x<nw AK/\Z9 l x=true)
  (hx:q9 (fun _=>False) w W) (kn:W.heap[w.heap.size]?=some (.cells #[.int .i64 0,.bool false,.bool false,.int .u64 0,.int .u64 0,.int .u64 0] 250)) (kb:W.heap[w.heap.size+1]?=some (.cells #[.int .u64 0,.int .u64 0,.int .u64 0] 197)) {a:Act} (hF:FrR sb w.heap.size (w.heap.size+1) a):
  ∃ n,zi6 Kp B w sb hb w.heap.size (w.heap.size+1) TK AK tw F (Z9 l) 1 n a W:=by
 refine⟨_,hF,⟨0,false,false,M3.none⟩,M3.none,g,c,tv,lv,[],[l],[X],Z9 l,⟨⟨h.ext hx,zb4.start F _ _ _ hl,rfl,fun s hs=>by simp at hs⟩,kn,kb,fun e=>?_,fun e=>?_,⟨Nat.le_refl _,Nat.le_succ _⟩,h.below hx (fun _ _ f=>f.elim),h.bB,fun k o hk ho=>⟨(hx.block k (z8 ho) (fun f=>f)).trans ho,hKp k hk⟩⟩,.inl ⟨rfl,fun k Z hk hZ=>?_,rfl⟩⟩
 ·exact absurd (h.lt e).1 (by omega)
 ·exact absurd (h.lt e).1 (by omega)
 ·have hk0:k=0:=by simpa using hk
  subst hk0;obtain rfl:X=Z:=by simpa using hZ
  exact⟨hG,fun y hy=>by simp[Y8,asQ] at hy,fun e=>by omega⟩
theorem jj6{l:List (BitVec 64)}{X:W9}(hP:zF2 F TK AK tw)(h:SrR B w sb hb g c TK AK tw tv lv [] [] [l] [X])(hKp:∀ k,Kp k->¬SrF sb hb g c tv lv k)(hG:ThG F [] X)(hl:∃ x,x<nw AK/\Z9 l x=true):
  Calls prog 94 #[.pointer (some ⟨sb,0,none⟩)] w (zH3 Kp B w sb hb TK AK tw F (Z9 l)):=by
 have HB:=q8 (fun(W:World) hx kn kb (a:Act) hF=>qL8 (W:=W) (a:=a) h hKp hG hl hx kn kb hF);clear h hKp hG hl;go_enter func94,ntmps94;refine wp_seq_k fun K0 hK0=>?_
 have hK0':∀ a v,Code.wp prog _ (zo9 (fun l' a W=>∃ n,zi6 Kp B w sb hb w.heap.size (w.heap.size+1) TK AK tw F (Z9 l) l' n a W) (Exit.noGoto (bodyPost prog Tryz.f94 (zH3 Kp B w sb hb TK AK tw F (Z9 l))))) a v->K0 a v:=fun a v h=>hK0 a v (wp_mono (zH2 (fun l' n a W=>zi6 Kp B w sb hb w.heap.size (w.heap.size+1) TK AK tw F (Z9 l) l' n a W) h (by
  intro l' n a W hJ;have hJ':=hJ;obtain⟨_,s0,m0,g,c,tv,lv,tr,ls,TT,l0,hR,hcase⟩:=hJ';rcases hcase with⟨rfl,_⟩|⟨rfl,_⟩|⟨rfl,_⟩|⟨rfl,_⟩
  ·exact⟨_,rfl,wp_seq (wp_skip (zw6 rfl rfl rfl rfl hP hJ))⟩
  ·exact⟨_,rfl,wp_seq (wp_skip (qv5 rfl rfl rfl rfl hP hJ))⟩
  ·exact⟨_,rfl,wp_seq (wp_skip (zC8 rfl rfl rfl rfl hP hJ))⟩
  ·exact⟨_,rfl,wp_seq (wp_skip (qm6 rfl rfl rfl rfl hP hJ))⟩)) (qv6 _))
 have HK0:=q8 hK0';clear hK0 hK0';go_wp2_with fail;refine HK0.out _ _ ?_;clear HK0;refine wp_seq_k fun K1 hK1=>?_
 have HK1:=q8 hK1;clear hK1;go_wp2_with fail;refine HK1.out _ _ ?_;clear HK1;refine wp_seq_k fun K1 hK1=>?_
 have HK1:=q8 hK1;clear hK1;go_wp2_with fail;refine HK1.out _ _ ?_;clear HK1;refine wp_seq_k fun K1 hK1=>?_
 have HK1:=q8 hK1;clear hK1;go_wp2_with fail;refine HK1.out _ _ ?_;clear HK1;refine wp_seq (wp_label ?_);have hsz:(w.alloc (.cells #[.int .i64 0,.bool false,.bool false,.int .u64 0,.int .u64 0,.int .u64 0] 250)).heap.size=w.heap.size+1:=zC9 _ _;have hxx:q9 (fun _=>False) w ((w.alloc (.cells #[.int .i64 0,.bool false,.bool false,.int .u64 0,.int .u64 0,.int .u64 0] 250)).alloc (.cells #[.int .u64 0,.int .u64 0,.int .u64 0] 197)):=((q9.refl _ w).alloc _).alloc _;have hkb:=heap_alloc_new (w.alloc (.cells #[.int .i64 0,.bool false,.bool false,.int .u64 0,.int .u64 0,.int .u64 0] 250)) (.cells #[.int .u64 0,.int .u64 0,.int .u64 0] 197);rw[hsz] at hkb;have hkn:=(((q9.refl (fun _=>False) (w.alloc (.cells #[.int .i64 0,.bool false,.bool false,.int .u64 0,.int .u64 0,.int .u64 0] 250))).alloc (.cells #[.int .u64 0,.int .u64 0,.int .u64 0] 197)).block w.heap.size (zC9 w _▸Nat.lt_succ_self _) (fun f=>f)).trans (heap_alloc_new w _);obtain⟨n,hJ⟩:=HB.out _ hxx hkn hkb _ ⟨false,_,_,_,_,_,_,_,_,_,_,_,_,_,_,_,_,_,_,_,_,_,_,_,_,_,_,_,_,_,_,_,_,_,_,_,_,_,_,_,_,_,_,_,_,_,rfl⟩;exact wp_mono (zw6 rfl rfl rfl rfl hP hJ) (zy1 fun l a w ⟨n2,_,h3⟩=>⟨n2,h3⟩)
end
end
section
open Go.RowKit Ar
attribute [local go_sem] qC0 qd4 qC1 qn4 zJ1 qY9 qw2 qZ0
section
variable{B:Nat}{w w':World}{sb hb g:Nat}{c:ThV}{TK:List Z3}{AK:List PA}{tw:List (Nat × Nat)}{tv lv:Value}{tr:List St}{As:List (PA × Bool)}{ls:List (List (BitVec 64))}{TT:List W9}{X:W9}{F:Fx}
theorem qm9(h:SrR B w sb hb g c TK AK tw tv lv tr As ls (TT++[X]))(hT:TK.length<=12)(hl:TT.length<=500):
  Calls prog 95 #[.pointer (some ⟨sb,0,none⟩)] w fun e w'=>∃ v,e=.returned v/\q9 (fun _=>False) w w'/\v.ownBlock=some w.heap.size/\w'.ownsRow 0 3 1 v TK.length ((List.range TK.length).map fun i=>.int .i64 (X.t.by_ i TK.length)):=by
 have kb:=h.blk;have c0:=z6 kb 0;have HM:=q8 (qm8 h.th hT hl);clear h kb;go_enter func95,ntmps95;go_wp2_with fail;refine HM.out.mono ?_;rintro e w1 ⟨v,rfl,h1,h2,h3⟩;have H1:=q8 (And.intro h1 (And.intro h2 h3));clear h1 h2 h3;go_wp2_with fail;go_ret;exact⟨v,rfl,H1.out⟩
theorem qY0{l:List (BitVec 64)}{b cap:Nat}{o:Obj}{V:World}(hth:ThR w hb g c TK AK tw [] [X])(hws:WS w b (.slice (some ⟨b,0,none⟩) l.length cap) l)(hll:l.length=2^(AK.length-6))(hp:K9 w)(hB:1<B)(hB2:B<=w.heap.size)(hB3:B<=hb/\B<=g)(hB4:∀ k,c.sv.ownBlock=some k->B<=k)
  (hV:((w.alloc o).alloc (.cells #[.slice (some ⟨b,0,none⟩) l.length cap] 136)).alloc (.cells #[.iface 139 (.pointer (some ⟨hb,0,none⟩)),.int .i64 AK.length,.slice none 0 0,.slice (some ⟨w.heap.size+1,0,none⟩) 1 1] 187)=V):
  q9 (fun _=>False) w V/\V.heap[w.heap.size]?=some o/\SrR B V (w.heap.size+1+1) hb g c TK AK tw (.slice none 0 0) (.slice (some ⟨w.heap.size+1,0,none⟩) 1 1) [] [] [l] [X]:=by
 have s1:=zC9 w o;have s2:=zC9 (w.alloc o) (.cells #[.slice (some ⟨b,0,none⟩) l.length cap] 136);have k0:=heap_alloc_new w o;have k1:=heap_alloc_new (w.alloc o) (.cells #[.slice (some ⟨b,0,none⟩) l.length cap] 136);have k2:=heap_alloc_new ((w.alloc o).alloc (.cells #[.slice (some ⟨b,0,none⟩) l.length cap] 136)) (.cells #[.iface 139 (.pointer (some ⟨hb,0,none⟩)),.int .i64 AK.length,.slice none 0 0,.slice (some ⟨w.heap.size+1,0,none⟩) 1 1] 187);have x0:q9 (fun _=>False) w (w.alloc o):=(q9.refl _ w).alloc _;have x1:q9 (fun _=>False) (w.alloc o) ((w.alloc o).alloc (.cells #[.slice (some ⟨b,0,none⟩) l.length cap] 136)):=(q9.refl _ _).alloc _;have x2:q9 (fun _=>False) ((w.alloc o).alloc (.cells #[.slice (some ⟨b,0,none⟩) l.length cap] 136)) V:=by rw[<- hV];exact(q9.refl _ _).alloc _
 rw[s2,s1] at k2;rw[s1] at k1 s2;rw[hV] at k2;have k1':=(x2.block _ (z8 k1) (fun f=>f)).trans k1;have k0':=(x2.block _ (by omega) (fun f=>f)).trans ((x1.block _ (z8 k0) (fun f=>f)).trans k0);have hx:=x0.trans (x1.trans x2);refine⟨hx,k0',?_⟩;have hws':=hws.ext hx (fun f=>f);exact⟨k2,⟨rfl,.inl ⟨rfl,rfl⟩⟩,⟨[.slice (some ⟨b,0,none⟩) l.length cap],⟨rfl,.inr ⟨_,1,_,rfl,Nat.zero_le _,k1',Nat.le_refl _,by decide,rfl,rfl⟩⟩,fun k l' hk=>by
   rcases k with _|k
   ·obtain rfl:l=l':=by simpa using hk
    exact⟨hll,b,_,rfl,hws'⟩
   ·simp at hk⟩,hth.ext hx (fun _ _ f=>f),hp.ext hx (fun f=>f),hB,by have:=hx.size;omega,⟨by omega,hB3⟩,fun k hk=>by
   rcases hk with hk|hk|hk
   ·exact hB4 k hk
   ·simp[Value.ownBlock] at hk
   ·simp[Value.ownBlock] at hk;omega⟩
theorem zF4{W:World}{k:Nat}(h:Below B w W)(hB:B<=W.heap.size)(hk:B<=k)(u v:Value):Below B w ((W.setCell ⟨k,0,none⟩ u).setCell ⟨k,1,none⟩ v):=by have hx:q9 (fun i=>i=k) W ((W.setCell ⟨k,0,none⟩ u).setCell ⟨k,1,none⟩ v):=((q9.refl (fun i=>i=k) W).setCell (p:=⟨k,0,none⟩) (fun _=>rfl) _).setCell (p:=⟨k,1,none⟩) (fun _=>rfl) _;exact h.trans ⟨hx.os,hx.tape,hx.output,hx.size,fun i hi=>hx.block i (by omega) (fun e=>by omega)⟩
theorem SrR.noAns{k:Nat}{C:Array Value}(h:SrR B w sb hb g c TK AK tw tv lv tr As ls TT)(hk:w.heap[k]?=some (.cells C 74)):¬SrF sb hb g c tv lv k:=by
 have own:∀ {e sz n:Nat} {v:Value} {xs:List Value},w.ownsRow 0 e sz v n xs->v.ownBlock=some k->e=74:=by
  intro e sz n v xs ho hv;rcases ho.2 with⟨rfl,_⟩|⟨g',cap,cur,rfl,_,hh,_⟩
  ·simp[Value.ownBlock] at hv
  ·obtain rfl:g' = k:=by simpa[Value.ownBlock] using hv
   rw[hk] at hh;simp at hh;exact hh.2.symm
 rintro(rfl|rfl|rfl|e|e|e)
 ·have:=h.blk;rw[hk] at this;simp at this
 ·have:=h.th.blk;rw[hk] at this;simp at this
 ·obtain⟨_,_,_,hg,_⟩:=h.th.tb.ex;rw[hk] at hg;simp at hg
 ·exact absurd (own h.th.ss e) (by decide)
 ·exact absurd (own h.row e) (by decide)
 ·obtain⟨_,ho,_⟩:=h.lf.ex;exact absurd (own ho e) (by decide)
theorem qL9{l:List (BitVec 64)}{b:Nat}{v:Value}(hP:zF2 F TK AK tw)(hth:ThR w hb g c TK AK tw [] [X])(hG:ThG F [] X)(hws:WS w b v l)(hll:l.length=2^(AK.length-6))(hp:K9 w)(hB:1<B)(hB2:B<=w.heap.size)(hB3:B<=hb/\B<=g)(hB4:∀ k,c.sv.ownBlock=some k->B<=k):
  Calls prog 60 #[.iface 139 (.pointer (some ⟨hb,0,none⟩)),.int .i64 AK.length,v] w fun e w'=>∃ r mv,e=.returned (.agg #[.bool r,mv])/\Below B w w' /\
   (r=true->∃ vals:Nat->Int,F.V vals/\(∃ x,x<nw AK/\Z9 l x=true/\isW (AK.map PA.at_) vals x)/\w'.ownsRow 0 3 1 mv TK.length ((List.range TK.length).map fun i=>.int .i64 (vals i))/\∀ k,mv.ownBlock=some k->B<=k) /\
   (r=false->mv=.slice none 0 0/\∀ vals,F.V vals->∀ x,x<nw AK->Z9 l x=true->¬isW (AK.map PA.at_) vals x):=by
 obtain⟨cap,cur,rfl,hcap,kws⟩:=hws.shape;have hlk:l.length<=1024:=by rw[hll];have:=hP.a16;exact Nat.pow_le_pow_right (n:=2) (by decide) (by omega:AK.length-6<=10)
 obtain⟨V,hV⟩:∃ V,((w.alloc (.cells #[.bool false,.slice none 0 0] 74)).alloc (.cells #[.slice (some ⟨b,0,none⟩) l.length cap] 136)).alloc (.cells #[.iface 139 (.pointer (some ⟨hb,0,none⟩)),.int .i64 AK.length,.slice none 0 0,.slice (some ⟨w.heap.size+1,0,none⟩) 1 1] 187)=V:=⟨_,rfl⟩;obtain⟨hx,k0,hS⟩:=qY0 hth hws hll hp hB hB2 hB3 hB4 hV;have HE:=q8 (zT8 (hws.ext hx (fun f=>f)) hlk);have HX:=q8 hx;have HS:=q8 hS;have K0:=q8 k0;have HLL:=q8 hll;have HV:=q8 hV;have HG:=q8 hG;have HB:=q8 (And.intro hB hB2);clear hth hws hx hS k0 hll hV hG hp hB hB3 hB4 kws hB2 hcap hlk;go_enter func60,ntmps60;go_wp2_with fail;rw[HV.out];refine HE.out.mono ?_;rintro e w1 ⟨rfl,r,rfl,hr⟩;have HRR:=q8 hr;clear hr HE;cases r with
 | true=>
  have k0:=K0.out;have a0:=z6 k0 0;have a1:=z6 k0 1;have af0:=Q8 k0 0;have af1:=Q8 k0 1;have hkl:=z8 k0;clear k0;go_wp2_with fail;refine bodyPost_ret (v:=.agg #[.bool false,.slice none 0 0]) (by simp[results,results60,go_sem,a0,a1]) rfl ⟨false,_,rfl,?_,fun e=>by simp at e,fun _=>⟨rfl,fun vals _ x hx hh=>?_⟩⟩
  ·exact zF4 (zd1 HX.out HB.out.2) (by have:=HX.out.size;have:=HB.out.2;omega) HB.out.2 _ _
  ·have:=HRR.out.1 (by simp) x (by rw[HLL.out];exact hx);rw[this] at hh;simp at hh
 | false=>
  have hex:∃ x,x<nw AK/\Z9 l x=true:=by
   refine Classical.byContradiction fun hno=>?_
   have:=HRR.out.2 (fun n hn=>by
    cases e:Z9 l n with
    | false=>rfl
    | true=>exact absurd ⟨n,by unfold nw;rw[<- HLL.out];exact hn,e⟩ hno)
   simp at this
  have HRN:=q8 (jj6 (Kp:=fun k=>k=w.heap.size) hP HS.out (fun k e=>e▸HS.out.noAns K0.out) HG.out hex);clear hex;go_wp2_with fail;refine HRN.out.mono ?_;rintro e w2 ⟨r,rfl,hbl,hkp,ht,hf⟩;have k2:=hkp _ _ rfl K0.out;have HBL:=q8 hbl;have HT:=q8 ht;have HF:=q8 hf;have a0:=z6 k2 0;have a1:=z6 k2 1;have af0:=Q8 k2 0;have af1:=Q8 k2 1;have hkl:=z8 k2;have K2:=q8 k2;clear hbl hkp ht hf k2 HRN;cases r with
  | false=>go_wp2_with fail;refine bodyPost_ret (v:=.agg #[.bool false,.slice none 0 0]) (by simp[results,results60,go_sem,a0,a1]) rfl ⟨false,_,rfl,?_,fun e=>by simp at e,fun _=>⟨rfl,HF.out (by simp)⟩⟩;exact zF4 ((zd1 HX.out HB.out.2).trans HBL.out) (by have:=HX.out.size;have:=HBL.out.size;have:=HB.out.2;omega) HB.out.2 _ _
  | true=>
   obtain⟨g3,c3,tv3,lv3,tr3,ls3,T3,X3,hS3,hT3,hl3,hV3,hx3⟩:=HT.out rfl;have hA:=hP.a16;have HM:=q8 (qm9 hS3 hP.t12 (by omega));have HS3:=q8 (And.intro hV3 hx3);clear hS3 hV3 hx3 HT;go_wp2_with fail;refine HM.out.mono ?_;rintro e w3 ⟨mv,rfl,hx3,hmv,hrow⟩;have k3:=(hx3.block _ (z8 K2.out) (fun f=>f)).trans K2.out;clear a0 a1 af0 af1;have a0:=z6 k3 0;have a1:=z6 k3 1;have af0:=Q8 k3 0;have af1:=Q8 k3 1;have hkl3:=z8 k3;obtain⟨ma,mc,rfl⟩:=Q0 hrow;have HX3:=q8 hx3;have HROW:=q8 hrow;have HMV:=q8 hmv;have K3:=q8 k3;clear hx3 hrow hmv k3;go_wp2_with fail;refine bodyPost_ret (v:=.agg #[.bool true,.slice ma TK.length mc]) (by simp[results,results60,go_sem,a0,a1]) rfl ⟨true,_,rfl,?_,fun _=>⟨gr F X3.t,HS3.out.1,HS3.out.2,?_,fun k hk=>?_⟩,fun e=>by simp at e⟩
   ·exact zF4 (((zd1 HX.out HB.out.2).trans HBL.out).trans (zd1 HX3.out (by have:=HX.out.size;have:=HBL.out.size;have:=HB.out.2;omega))) (by have:=HX.out.size;have:=HBL.out.size;have:=HX3.out.size;have:=HB.out.2;omega) HB.out.2 _ _
   ·have e1:(fun i=>Value.int .i64 (gr F X3.t i))=fun i=>Value.int .i64 (X3.t.by_ i TK.length):=by funext i;unfold gr;rw[hP.fx.fn]
    rw[e1];have hx:q9 (fun i=>i=w.heap.size) w3 ((w3.setCell ⟨w.heap.size,0,none⟩ (.bool true)).setCell ⟨w.heap.size,1,none⟩ (.slice ma TK.length mc)):=((q9.refl (fun i=>i=w.heap.size) w3).setCell (p:=⟨w.heap.size,0,none⟩) (fun _=>rfl) _).setCell (p:=⟨w.heap.size,1,none⟩) (fun _=>rfl) _;refine z7 HROW.out hx (fun k hk e=>?_);rw[HMV.out] at hk;have e1:=Option.some.inj hk;have h1:=HX.out.size;have h2:=HBL.out.size;have h3:=z8 K0.out;omega
   ·have:=HMV.out;rw[hk] at this;have e:=Option.some.inj this;have:=HX.out.size;have:=HBL.out.size;have:=HB.out.2;omega
end
end
end Go.Proofs.YtegbdaffhpiacaaGreatDoor
