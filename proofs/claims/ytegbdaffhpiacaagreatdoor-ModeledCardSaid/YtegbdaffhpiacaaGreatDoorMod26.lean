/- A part of the proof. -/
import Derived.Test.YtegbdaffhpiacaaGreatDoorMod25
import Derived.Deep.AppendLies
set_option maxRecDepth 100000
set_option maxHeartbeats 2000000
namespace Go.Proofs.YtegbdaffhpiacaaGreatDoor
open Tryz hiding parts
section
open Go.RowKit Ar
attribute [local go_sem ↓] zp2 zK9
section
variable{w:World}{hb g:Nat}{c:ThV}{TK:List Z3}{AK:List PA}{tw:List (Nat × Nat)}{As:List (PA × Bool)}{TT:List W9}{X:W9}{F:Fx}
structure ThG(F:Fx)(As:List (PA × Bool))(X:W9):Prop where
 inv:V9 (F.n+1) F.far F.V (HA (Y8 As)) As.length X.t
 tk:∀ x∈Y8 As,U7 X.t x
 nums:qW1 F X.t
def AsC(w:World)(hb g:Nat)(c:ThV)(TK:List Z3)(AK:List PA)(tw:List (Nat × Nat))(As:List (PA × Bool))(TT:List W9)(X:W9)(F:Fx)(x:PA)(yes:Bool)(e:Ending)(w':World):Prop :=
 ∃ Y ok g' sv bv,e=.returned (.bool ok)/\ThR w' hb g' ⟨c.tv,c.av,c.wv,sv,bv⟩ TK AK tw (As++[(x,yes)]) (TT++[X]++[Y])/\q9 (fun k=>k=hb\/k=g\/c.sv.ownBlock=some k) w w'/\(g' = g\/w.heap.size<=g')/\(∀ k,sv.ownBlock=some k->c.sv.ownBlock=some k\/w.heap.size<=k) /\
  (ok=true->ThG F (As++[(x,yes)]) Y/\(∀ y∈Y8 (As++[(x,yes)]),ze1 Y.t y)/\∀ p∈tw,zg3 F Y.t p) /\
  (ok=false->J8 (As.length+1) Y.wrong/\∀ v,F.V v->¬Hs (HA (Y8 (As++[(x,yes)]))) Y.wrong v)
theorem qq0(h:ThR w hb g c TK AK tw As (TT++[X])){q:Nat}{yes:Bool}(hG:ThG F As X)(hF:qg2 F TK tw)(hfar:F.far<=1000000)(hT:TK.length<=12)(hA:AK.length<=16)(htw:tw.length<=1000)(hq:q<=1000)(hl:TT.length<=200)(hAs:As.length<=188)(hok:∀ x∈As,x.1.at_.Ok/\x.1.i<TK.length/\x.1.j<TK.length)(hxo:(paQ AK q).at_.Ok/\(paQ AK q).i<TK.length/\(paQ AK q).j<TK.length)(hxb:-1000<=(paQ AK q).b/\(paQ AK q).b<=1000):
  Calls prog 253 #[.pointer (some ⟨hb,0,none⟩),.int .i64 q,.bool yes] w (AsC w hb g c TK AK tw As TT X F (paQ AK q) yes):=by
 obtain⟨x,hxq⟩:∃ x,paQ AK q=x:=⟨_,rfl⟩;rw[hxq] at hxo hxb ⊢;have HXQ:=q8 hxq;clear hxq;have kb:=h.blk;obtain⟨sa,sc,hsv⟩:=Q0 h.ss;have hbl:=z8 kb;rw[hsv] at kb;have c3:=z6 kb 3;have HOF:Hid (Calls prog 179 #[.int .i64 As.length] w fun e w'=>e=.returned (.agg #[.int .u64 (M3.of As.length).a.toNat,.int .u64 (M3.of As.length).b.toNat,.int .u64 (M3.of As.length).c.toNat])/\q9 (fun _=>False) w w'):=q8 (zZ1 As.length (by omega) w);have H:=q8 h;obtain⟨i0,hi,hz0,hz1,hz2⟩:=info_parts ja7;have HG:=q8 hG;have HF:=q8 hF;have HOK:=q8 hok;have HXO:=q8 hxo;have HXB:=q8 hxb;clear h kb hG hF hok hxo hxb;go_enter func253,ntmps253;go_wp2_with fail;refine HOF.out.mono ?_;rintro e w1 ⟨rfl,hx1⟩;obtain⟨V1,hV1⟩:∃ V1,w1.alloc (.cells #[.int .u64 (M3.of As.length).a.toNat,.int .u64 (M3.of As.length).b.toNat,.int .u64 (M3.of As.length).c.toNat] 197)=V1:=⟨_,rfl⟩;have hxV1:q9 (fun _=>False) w V1:=by rw[<- hV1];exact hx1.alloc _
 have kM:V1.heap[w1.heap.size]?=some (.cells #[.int .u64 (M3.of As.length).a.toNat,.int .u64 (M3.of As.length).b.toNat,.int .u64 (M3.of As.length).c.toNat] 197):=by rw[<- hV1];exact heap_alloc_new w1 _
 have KM:=q8 kM;have HVE:=q8 hV1;have h1:=H.out.ext hxV1 (fun _ _ f=>f);have HAT:=q8 (qp4 h1 q (by omega) hA);have H1:=q8 h1;have HX1:=q8 hxV1;clear h1 hx1 kM hV1 hxV1;go_wp2_with fail;rw[HVE.out];refine HAT.out.mono ?_;rintro e w2 ⟨rfl,hx2⟩;rw[HXQ.out];obtain⟨V2,hV2⟩:∃ V2,w2.alloc (.cells #[.string x.wd,.int .i64 x.i,.int .i64 x.j,.int .i64 x.b] 153)=V2:=⟨_,rfl⟩;have hxV2:q9 (fun _=>False) V1 V2:=by rw[<- hV2];exact hx2.alloc _
 have kA:V2.heap[w2.heap.size]?=some (.cells #[.string x.wd,.int .i64 x.i,.int .i64 x.j,.int .i64 x.b] 153):=by rw[<- hV2];exact heap_alloc_new w2 _
 have h2:=H1.out.ext hxV2 (fun _ _ f=>f);have H2:=q8 h2;have kM2:=(hxV2.block _ (z8 KM.out) (fun f=>f)).trans KM.out;have KM2:=q8 kM2;have HX2:=q8 (HX1.out.trans hxV2);have kb:=h2.blk;rw[hsv] at kb;have c3:=z6 kb 3;have HO2:=q8 (hsv▸h2.ss);have a0:=z6 kA 0;have a1:=z6 kA 1;have a2:=z6 kA 2;have a3:=z6 kA 3;have KA:=q8 kA;have KB:=q8 kb;have HVE2:=q8 hV2;have hbl2:=z8 kb;have hal2:=z8 kA;clear h2 hx2 kb kA kM2 hV2 hxV2;clear HVE KM HOF HAT H H1 HX1;go_wp2_with fail;rw[HVE2.out];clear HVE2;rename_i K aK
 suffices hK:∀ (gs cap':Nat) (W3:World),ThR W3 hb g ⟨c.tv,c.av,c.wv,.slice (some ⟨gs,0,none⟩) (As.length+1) cap',c.bv⟩ TK AK tw (As++[(x,yes)]) (TT++[X])->q9 (fun k=>k=hb\/c.sv.ownBlock=some k) V2 W3->(c.sv.ownBlock=some gs\/V2.heap.size<=gs)->K { tmps:=#[.pointer (some ⟨hb,0,none⟩),.int .i64 q,.bool yes,undef,undef,undef,.bool false,.pointer (some ⟨w1.heap.size,0,none⟩),.pointer (some ⟨w2.heap.size,0,none⟩),.pointer (some ⟨hb,0,none⟩),.pointer (some ⟨hb,0,none⟩),.pointer (some ⟨hb,3,none⟩),.slice sa As.length sc,.int .i64 As.length,.agg #[.int .u64 (M3.of As.length).a.toNat,.int .u64 (M3.of As.length).b.toNat,.int .u64 (M3.of As.length).c.toNat],.pointer (some ⟨hb,0,none⟩),.int .i64 q,.agg #[.string x.wd,.int .i64 x.i,.int .i64 x.j,.int .i64 x.b],.pointer (some ⟨hb,0,none⟩),.pointer (some ⟨hb,0,none⟩),.pointer (some ⟨hb,0,none⟩),.pointer (some ⟨hb,3,none⟩),.slice sa As.length sc,.agg #[.string x.wd,.int .i64 x.i,.int .i64 x.j,.int .i64 x.b],.bool yes,.agg #[.string x.wd,.int .i64 x.i,.int .i64 x.j,.int .i64 x.b,.bool yes],.slice (some ⟨V2.heap.size,0,none⟩) 1 1,.slice (some ⟨gs,0,none⟩) ((As.length+1:Nat)) cap',.pointer (some ⟨hb,0,none⟩),.pointer (some ⟨hb,3,none⟩),undef,undef,undef,undef,undef,undef,undef,undef,undef,undef,undef,undef,undef,undef,undef,undef,undef,undef,undef,undef,undef,undef,undef],defers:=[] } W3 by
  have HSK:=q8 hK;clear hK
  go_region_law (first|(refine step_append_lies _ (by rfl) _ _ _ (by rfl) 0 382 i0 _ 5 48 underlying191 hi hz0 hz1 hz2 rfl (by omega) (.slice sa As.length sc) As.length (X1 As) (by rfl) (by first|exact HO2.out.alloc _|exact(HO2.out.alloc _).drew) ⟨V2.heap.size,0,none⟩ 1 1 [.string x.wd,.int .i64 x.i,.int .i64 x.j,.int .i64 x.b,.bool yes] (by rfl) (by rfl) (World.news_of_block (cs:=#[.string x.wd,.int .i64 x.i,.int .i64 x.j,.int .i64 x.b,.bool yes]) (t:=382) (fr:=(0,0)) (heap_alloc_new V2 _)) (by simp[Value.oneCell']) (by omega) (by unfold maxLen;omega) (by omega) (Nat.zero_le _) (V2.heap.size+1) (by simp) ?_;intro gs cap' w3 hown3 hgrow hat hlt3;have kb3:w3.heap[hb]?=some (.cells #[c.tv,c.av,c.wv,.slice sa As.length sc,c.bv] 194):=(hgrow.block hb (by simp;omega) (fun e=>Z7 HO2.out KB.out (by decide) e.symm)).trans ((Below.heap_alloc V2 _ hb hbl2).trans KB.out);have d3:=z6 kb3 3;have d3f:=Q8 kb3 3)|go_simp|fail)
  all_goals
   obtain⟨r1,r2⟩:=H2.out.pushS (x:=x) (yes:=yes) (by first|exact(q9.refl _ V2).alloc _|exact((q9.refl _ V2).alloc _).drew) (hsv▸hgrow) hown3;exact HSK.out gs cap' _ r1 r2 (hat.imp (fun e=>by rw[hsv];exact e) (fun e=>by omega))
 intro gs cap' W3 hR hx3 hgs;have HGS:=q8 hgs;clear hgs;refine aK _ _ ?_;clear aK c3 a0 a1 a2 a3 hi hz0 hz1 hz2 hal2 hbl2;obtain⟨cap0,C,hbv,kg,hC,hcap,hcm,hall⟩:=hR.tb.ex;have hTX:=hall TT.length X (by simp);have HNOW:Hid (∀ W,q9 (fun _=>False) W3 W->Calls prog 259 #[.pointer (some ⟨hb,0,none⟩)] W fun e w'=>e=.returned (.pointer (some ⟨g,TT.length*681,none⟩))/\w' = W.drew):=by intro W hxw;have:=zg5 (hR.ext hxw (fun _ _ f=>f)) (by simp) (by simp;omega);rw[List.length_append,List.length_singleton,Nat.add_sub_cancel] at this;exact this
 have HLD:∀ W,W.heap[g]?=W3.heap[g]?->(zH6 ⟨g,TT.length*681,none⟩ 681).run prog W=.ok (C.extract (TT.length*681) (TT.length*681+681)) W:=by
  intro W hw;refine zy6 _ _ _ _ _ (zK6 hTX) (fun j v hv=>?_);have hadd:(⟨g,TT.length*681,none⟩:Addr).add j=⟨g,TT.length*681+j,none⟩:=by unfold Addr.add;split<;>simp_all
  rw[hadd,z6 (hw.trans kg) _];rw[Array.getElem?_extract] at hv;split at hv
  ·exact hv
  ·simp at hv
 have hld1:=HLD W3 rfl;have hld2:=HLD W3.drew rfl;have hld3:=HLD W3.drew.drew rfl;clear HLD;have HOWN:Hid (W3.ownsRow 0 203 681 c.bv (TT.length+1) (C.toList.take ((TT.length+1)*681))):=by
  obtain⟨cap1,C1,e1,e2,_,e3⟩:=hR.tb.own;rw[kg] at e2;obtain rfl:C=C1:=by simpa using e2
  rw[List.length_append,List.length_singleton] at e3;exact e3
 have hbv':c.bv=.slice (some ⟨g,0,none⟩) ((TT.length+1:Nat)) cap0:=by rw[List.length_append,List.length_singleton] at hbv;exact hbv
 have kb3:=hR.blk;simp only at kb3;rw[hbv'] at kb3;have d4:=z6 kb3 4;have HR:=q8 hR;have HX3:=q8 hx3;have KB3:=q8 kb3;have KG:=q8 kg;have hbl3:=z8 kb3;have hgl3:=z8 kg;obtain⟨i1,hi,hz0,hz1,hz2⟩:=info_parts zH5;obtain⟨D,hD⟩:∃ D,C.extract (TT.length*681) (TT.length*681+681)=D:=⟨_,rfl⟩;have hDs:=zK6 hTX;obtain⟨m,hm⟩:∃ m,TT.length*681=m:=⟨_,rfl⟩;rw[hD] at hld1 hld2 hld3 hDs;have hONE:∀ u∈D.toList,u.oneCell' = true:=by rw[<- hD];exact hTX.cut.one_all (zK6 hTX)
 rw[hm] at hld1 hld2 hld3 HNOW;have HDE:=q8 hD;have HME:=q8 hm;have hbs:=fun W=>zT3 W D hDs
 have HNG:=q8 hR.not_hb.1;rw[hbv'] at HOWN;clear hR hx3 kb3 kg hC hcap hcm hall hTX hD hm hbv;go_wp2_with fail;have HONE:=q8 (hONE);clear hONE;rename_i K2 aK2
 suffices hK2:∀ (g' cap2:Nat) (W4:World),ThR W4 hb g' ⟨c.tv,c.av,c.wv,.slice (some ⟨gs,0,none⟩) (As.length+1) cap',.slice (some ⟨g',0,none⟩) (TT.length+1+1) cap2⟩ TK AK tw (As++[(x,yes)]) (TT++[X]++[X])->q9 (fun k=>k=hb\/k=g) W3 W4->(g' = g\/W3.heap.size<=g')->K2 { tmps:=#[.pointer (some ⟨hb,0,none⟩),.int .i64 q,.bool yes,undef,undef,undef,.bool false,.pointer (some ⟨w1.heap.size,0,none⟩),.pointer (some ⟨w2.heap.size,0,none⟩),.pointer (some ⟨hb,0,none⟩),.pointer (some ⟨hb,0,none⟩),.pointer (some ⟨hb,3,none⟩),.slice sa As.length sc,.int .i64 As.length,.agg #[.int .u64 (M3.of As.length).a.toNat,.int .u64 (M3.of As.length).b.toNat,.int .u64 (M3.of As.length).c.toNat],.pointer (some ⟨hb,0,none⟩),.int .i64 q,.agg #[.string x.wd,.int .i64 x.i,.int .i64 x.j,.int .i64 x.b],.pointer (some ⟨hb,0,none⟩),.pointer (some ⟨hb,0,none⟩),.pointer (some ⟨hb,0,none⟩),.pointer (some ⟨hb,3,none⟩),.slice sa As.length sc,.agg #[.string x.wd,.int .i64 x.i,.int .i64 x.j,.int .i64 x.b],.bool yes,.agg #[.string x.wd,.int .i64 x.i,.int .i64 x.j,.int .i64 x.b,.bool yes],.slice (some ⟨V2.heap.size,0,none⟩) 1 1,.slice (some ⟨gs,0,none⟩) ((As.length+1:Nat)) cap',.pointer (some ⟨hb,0,none⟩),.pointer (some ⟨hb,3,none⟩),.pointer (some ⟨hb,0,none⟩),.pointer (some ⟨hb,0,none⟩),.pointer (some ⟨hb,0,none⟩),.pointer (some ⟨hb,4,none⟩),.slice (some ⟨g,0,none⟩) ((TT.length+1:Nat)) cap0,.pointer (some ⟨hb,0,none⟩),.pointer (some ⟨g,m,none⟩),.pointer (some ⟨g,m,none⟩),.agg D,.slice (some ⟨W3.heap.size,0,none⟩) 1 1,.slice (some ⟨g',0,none⟩) ((TT.length+1+1:Nat)) cap2,.pointer (some ⟨hb,0,none⟩),.pointer (some ⟨hb,4,none⟩),undef,undef,undef,undef,undef,undef,undef,undef,undef,undef],defers:=[] } W4 by
  have HSK:=q8 hK2;clear hK2
  go_region_law (first|(refine step_append_lies _ (by rfl) _ _ _ (by rfl) 0 203 i1 _ 681 5448 underlying192 hi hz0 hz1 hz2 zp3 (by omega) (.slice (some ⟨g,0,none⟩) (TT.length+1) cap0) (TT.length+1) (C.toList.take ((TT.length+1)*681)) (by rfl) (by first|exact((HOWN.out.alloc _).drew).drew|exact HOWN.out.drew.drew.alloc _) ⟨W3.heap.size,0,none⟩ 1 1 D.toList (by rfl) (by simp[hDs]) (World.news_of_block (cs:=D) (t:=203) (fr:=(0,0)) (heap_alloc_new W3 _)) HONE.out (by omega) (by unfold maxLen;omega) (by omega) (Nat.zero_le _) (W3.heap.size+1) (by simp) ?_;intro g' cap2 w5 hown5 hgrow5 hat5 hlt5;have kb5:w5.heap[hb]?=some (.cells #[c.tv,c.av,c.wv,.slice (some ⟨gs,0,none⟩) (As.length+1) cap',.slice (some ⟨g,0,none⟩) (TT.length+1) cap0] 194):=(hgrow5.block hb (by simp;omega) (fun e=>HNG.out (by simpa[Value.ownBlock] using e.symm))).trans ((Below.heap_alloc W3 _ hb hbl3).trans KB3.out);have d4:=z6 kb5 4;have d4f:=Q8 kb5 4)|(go_simp;go_wp2_with (go_at_call 259;refine(HNOW.out _ (by first|exact q9.refl _ _|exact(q9.refl _ _).drew)).mono ?_;rintro e wn ⟨rfl,rfl⟩))|fail)
  all_goals
   obtain⟨r1,r2⟩:=HR.out.pushB KG.out (by exact((((q9.refl (fun _=>False) W3).alloc (.cells D 203)).drew).drew)) hgrow5 (by rw[HDE.out];exact hown5);exact HSK.out g' cap2 _ r1 r2 (hat5.imp (fun e=>by simpa[Value.ownBlock] using e.symm) (fun e=>by omega))
 intro g' cap2 W4 hR4 hx4 hgn;refine aK2 _ _ ?_;clear aK2 hbs hld1 hld2 hld3 HNOW HOWN hi hz0 hz1 hz2 d4 HONE hDs HDE HME;have kA3:=(HX3.out.block _ (z8 KA.out) (fun e=>e.elim (fun e=>by have:=KB.out;rw[<- e,KA.out] at this;simp at this) (fun e=>Z7 (hsv▸HO2.out) KA.out (by decide) e))).trans KA.out;have kM3:=(HX3.out.block _ (z8 KM2.out) (fun e=>e.elim (fun e=>by have:=KB.out;rw[<- e,KM2.out] at this;simp at this) (fun e=>Z7 (hsv▸HO2.out) KM2.out (by decide) e))).trans KM2.out;have kA4:=(hx4.block _ (z8 kA3) (fun e=>e.elim (fun e=>by have:=KB3.out;rw[<- e,kA3] at this;simp at this) (fun e=>by have:=KG.out;rw[<- e,kA3] at this;simp at this))).trans kA3;have kM4:=(hx4.block _ (z8 kM3) (fun e=>e.elim (fun e=>by have:=KB3.out;rw[<- e,kM3] at this;simp at this) (fun e=>by have:=KG.out;rw[<- e,kM3] at this;simp at this))).trans kM3;have a0:=z6 kA4 0;have a1:=z6 kA4 1;have a2:=z6 kA4 2;have a3:=z6 kA4 3;have m0:=z6 kM4 0;have m1:=z6 kM4 1;have m2:=z6 kM4 2;have hlA:=z8 kA4;have hlM:=z8 kM4;have hAsl:(As++[(x,yes)]).length=As.length+1:=by simp
 have hFn:=HF.out.fn;have HNOW4:Hid (∀ W,q9 (fun _=>False) W4 W->Calls prog 259 #[.pointer (some ⟨hb,0,none⟩)] W fun e w'=>e=.returned (.pointer (some ⟨g',(TT.length+1)*681,none⟩))/\w' = W.drew):=by intro W hxw;have:=zg5 (hR4.ext hxw (fun _ _ f=>f)) (by simp) (by simp;omega);simp only[List.length_append,List.length_singleton,Nat.add_sub_cancel] at this;exact this
 have hI4:V9 (F.n+1) F.far F.V (HA (Y8 (As++[(x,yes)]))) (As.length+1) X.t:=by
  refine(HG.out.inv.same (fun k hk v hv=>?_)).more (by omega);have e:Y8 (As++[(x,yes)])=Y8 As++[(x.at_,yes)]:=by simp[Y8]
  rw[e,HA.app (by simpa[Y8] using hk)] at hv;exact hv
 have HTAKE:Hid (∀ W,q9 (fun _=>False) W4 W->Calls prog 260 #[.pointer (some ⟨g',(TT.length+1)*681,none⟩),.agg #[.string x.wd,.int .i64 x.i,.int .i64 x.j,.int .i64 x.b],.bool yes,.agg #[.int .u64 (M3.of As.length).a.toNat,.int .u64 (M3.of As.length).b.toNat,.int .u64 (M3.of As.length).c.toNat]] W fun e wp=>∃ Y ok,e=.returned (.bool ok)/\ThR wp hb g' ⟨c.tv,c.av,c.wv,.slice (some ⟨gs,0,none⟩) (As.length+1) cap',.slice (some ⟨g',0,none⟩) (TT.length+1+1) cap2⟩ TK AK tw (As++[(x,yes)]) (TT++[X]++[Y])/\q9 (fun k=>k=g') W4 wp/\Ar.TPost (F.n+1) F.far F.V (HA (Y8 (As++[(x,yes)]))) (As.length+1) X Y ok/\(ok=true->U7 Y.t (x.at_,yes))):=by
  intro W hxw;obtain⟨C4,kg4,hT4,hturn⟩:=hR4.tab;have hlx:(TT++[X]).length=TT.length+1:=by simp
  rw[hlx] at hT4 hturn;refine(qO9 ((hxw.block _ (z8 kg4) (fun f=>f)).trans kg4) hT4 (n:=TK.length+1) (far:=F.far) (V:=F.V) (H:=HA (Y8 (As++[(x,yes)]))) (K:=As.length+1) (by omega) (by have:=HXO.out.2.1;omega) (by have:=HXO.out.2.2;omega) (hFn▸hI4) hfar ?_ HXO.out.1 HXB.out ?_).mono ?_
  ·intro k hk;rw[M3.has_of (by omega)] at hk;simp at hk;omega
  ·intro v hv hh;exact hh As.length (by rw[M3.has_of (by omega)];simp) (x.at_,yes) (by simp[Y8])
  ·rintro e wp ⟨Z,ok,he,hTP,hPP,hRR⟩;exact⟨Z,ok,he,hturn wp Z (O0.trans (hxw.mono (fun _ _ f=>f.elim)) (X9.refl _ _) hTP),(hxw.mono (fun _ _ f=>f.elim)).trans hTP.1,by rw[hFn];exact hPP,hRR⟩
 have HFOL:Hid (∀ W Y,ThR W hb g' ⟨c.tv,c.av,c.wv,.slice (some ⟨gs,0,none⟩) (As.length+1) cap',.slice (some ⟨g',0,none⟩) (TT.length+1+1) cap2⟩ TK AK tw (As++[(x,yes)]) (TT++[X]++[Y])->V9 (F.n+1) F.far F.V (HA (Y8 (As++[(x,yes)]))) (As.length+1) Y.t->Calls prog 261 #[.pointer (some ⟨hb,0,none⟩)] W fun e w'=>∃ Z ok,e=.returned (.bool ok)/\ThR w' hb g' ⟨c.tv,c.av,c.wv,.slice (some ⟨gs,0,none⟩) (As.length+1) cap',.slice (some ⟨g',0,none⟩) (TT.length+1+1) cap2⟩ TK AK tw (As++[(x,yes)]) (TT++[X]++[Z])/\q9 (fun k=>k=g') W w'/\TLe (F.n+1) Z.t Y.t/\(ok=true->V9 (F.n+1) F.far F.V (HA (Y8 (As++[(x,yes)]))) (As.length+1) Z.t/\(∀ y∈Y8 (As++[(x,yes)]),ze1 Z.t y)/\∀ p∈tw,zg3 F Z.t p)/\(ok=false->J8 (As.length+1) Z.wrong/\∀ v,F.V v->¬Hs (HA (Y8 (As++[(x,yes)]))) Z.wrong v)):=by
  intro W Y hRW hIY;have:=qp9 hRW HF.out hT (by simp;omega) htw (by simp;omega) (fun y hy=>by
   rcases List.mem_append.1 hy with e|e
   ·exact HOK.out y e
   ·simp at e;subst e;exact HXO.out) (by rw[hAsl];exact hIY) hfar
  rw[hAsl] at this;exact this
 have HXT:Hid (q9 (fun k=>k=hb\/k=g\/c.sv.ownBlock=some k) w W4):=by refine((HX2.out.mono (fun _ _ f=>f.elim)).trans' HX3.out (fun k _ e=>e.elim .inl (fun e=>.inr (.inr e)))).trans' hx4 (fun k _ e=>e.elim .inl (fun e=>.inr (.inl e)))
 have HGN:Hid (∀ k,k<w.heap.size->k=g'->k=hb\/k=g\/c.sv.ownBlock=some k):=by
  intro k hk e;have s1:=HX2.out.size;have s2:=HX3.out.size;rcases hgn with e2|e2
  ·exact .inr (.inl (e.trans e2))
  ·omega
 have HGE:Hid (g' = g\/w.heap.size<=g'):=by have s1:=HX2.out.size;have s2:=HX3.out.size;exact hgn.imp (fun e=>e) (fun e=>by omega)
 have HSE:Hid (∀ k,(Value.slice (some ⟨gs,0,none⟩) (As.length+1) cap').ownBlock=some k->c.sv.ownBlock=some k\/w.heap.size<=k):=by intro k hk;simp[Value.ownBlock] at hk;subst hk;have s1:=HX2.out.size;exact HGS.out.imp (fun e=>e) (fun e=>by omega)
 clear hgn;have HAF:Hid (∀ (wp:World) (Y:W9),(ThR wp hb g' ⟨c.tv,c.av,c.wv,.slice (some ⟨gs,0,none⟩) (As.length+1) cap',.slice (some ⟨g',0,none⟩) (TT.length+1+1) cap2⟩ TK AK tw (As++[(x,yes)]) (TT++[X]++[Y])/\q9 (fun k=>k=g') W4 wp/\Ar.TPost (F.n+1) F.far F.V (HA (Y8 (As++[(x,yes)]))) (As.length+1) X Y false/\(false=true->U7 Y.t (x.at_,yes)))->AsC w hb g c TK AK tw As TT X F x yes (.returned (.bool false)) wp):=by rintro wp Y ⟨f1,f2,f3,f4⟩;refine⟨Y,false,g',_,_,rfl,f1,?_,HGE.out,HSE.out,fun e=>by simp at e,fun _=>f3.bad rfl⟩;exact HXT.out.trans' f2 HGN.out
 have HAT2:Hid (∀ (wp wf:World) (Y Z:W9) (ok2:Bool),(ThR wp hb g' ⟨c.tv,c.av,c.wv,.slice (some ⟨gs,0,none⟩) (As.length+1) cap',.slice (some ⟨g',0,none⟩) (TT.length+1+1) cap2⟩ TK AK tw (As++[(x,yes)]) (TT++[X]++[Y])/\q9 (fun k=>k=g') W4 wp/\Ar.TPost (F.n+1) F.far F.V (HA (Y8 (As++[(x,yes)]))) (As.length+1) X Y true/\(true=true->U7 Y.t (x.at_,yes))) ->
   (ThR wf hb g' ⟨c.tv,c.av,c.wv,.slice (some ⟨gs,0,none⟩) (As.length+1) cap',.slice (some ⟨g',0,none⟩) (TT.length+1+1) cap2⟩ TK AK tw (As++[(x,yes)]) (TT++[X]++[Z])/\q9 (fun k=>k=g') wp wf/\TLe (F.n+1) Z.t Y.t/\(ok2=true->V9 (F.n+1) F.far F.V (HA (Y8 (As++[(x,yes)]))) (As.length+1) Z.t/\(∀ y∈Y8 (As++[(x,yes)]),ze1 Z.t y)/\∀ p∈tw,zg3 F Z.t p)/\(ok2=false->J8 (As.length+1) Z.wrong/\∀ v,F.V v->¬Hs (HA (Y8 (As++[(x,yes)]))) Z.wrong v)) ->
   ∀ e,e=Ending.returned (.bool ok2)->AsC w hb g c TK AK tw As TT X F x yes e wf):=by
  rintro wp wf Y Z ok2 ⟨f1,f2,f3,f4⟩ ⟨g1,g2,g3,g4,g5⟩ e rfl;refine⟨Z,ok2,g',_,_,rfl,g1,?_,HGE.out,HSE.out,fun e=>?_,g5⟩
  ·exact(HXT.out.trans' f2 HGN.out).trans' g2 HGN.out
  ·obtain⟨p1,p2,p3⟩:=g4 e;refine⟨⟨by rw[hAsl];exact p1,fun y hy=>?_,HG.out.nums.le (g3.trans f3.le)⟩,p2,p3⟩;have e1:Y8 (As++[(x,yes)])=Y8 As++[(x.at_,yes)]:=by simp[Y8]
   rw[e1] at hy;rcases List.mem_append.1 hy with e2|e2
   ·obtain⟨z,hz,rfl⟩:=List.mem_map.1 e2;have hzo:=HOK.out z hz;exact(HG.out.tk _ e2).le (g3.trans f3.le) (by show z.1.i<F.n+1;omega) (by show z.1.j<F.n+1;omega)
   ·simp at e2;subst e2;have hxo:=HXO.out;exact(f4 rfl).le g3 (by show x.i<F.n+1;omega) (by show x.j<F.n+1;omega)
 have HR4:=q8 hR4;have HX4:=q8 hx4;clear hR4 hx4 kA3 kM3 kA4 kM4 hI4 hAsl;obtain⟨m',hm'⟩:∃ m',(TT.length+1)*681=m':=⟨_,rfl⟩;rw[hm'] at HNOW4 HTAKE;clear hm';go_wp2_with fail
 go_region_law (first
  | (go_simp;go_wp2_with (go_at_call 259;refine(HNOW4.out _ (by first|exact q9.refl _ _|exact(q9.refl _ _).drew)).mono ?_;rintro e wn ⟨rfl,rfl⟩;have HC:=HNOW4);clear HC)
  | (go_simp;go_wp2_with (go_at_call 261;refine(HFOL.out _ _ HFI2.out.1 (HFI2.out.2.2.1.inv rfl)).mono ?_;rintro e wf ⟨Z,ok2,rfl,hfin⟩;have HFI3:=q8 hfin;clear hfin;have HC:=HNOW4);clear HC)
  | (go_simp;go_wp2_with (go_at_call 260;refine(HTAKE.out _ (by first|exact(q9.refl _ _).drew|exact(q9.refl _ _).drew.drew)).mono ?_;rintro e wp ⟨Y,ok,rfl,hfin⟩;have HFIN:=q8 hfin;clear hfin);have HFI2:=HFIN;clear HFIN;rcases ok with _|_;focus (refine wpAny_ready (rs:=[6]) (by kernel_rfl) (by simp) ?_;refine AllReady.cons rfl (fun K5 hK5=>?_) AllReady.nil;go_simp;refine hK5 _ _ ?_;clear hK5 K5;refine wpAny_ready (rs:=[7]) (by kernel_rfl) (by simp) ?_;refine AllReady.cons rfl (fun K5 hK5=>?_) AllReady.nil;go_simp;refine hK5 _ _ ?_;clear hK5 K5;refine wpAny_ready (rs:=[8]) (by kernel_rfl) (by simp) ?_;refine AllReady.cons rfl (fun K5 hK5=>?_) AllReady.nil;go_simp;refine hK5 _ _ ?_;clear hK5 K5;refine wpAny_ready (rs:=[9]) (by kernel_rfl) (by simp) ?_;refine AllReady.cons rfl (fun K5 hK5=>?_) AllReady.nil;go_simp;refine hK5 _ _ ?_;clear hK5 K5;refine wpAny_ready (rs:=[10]) (by kernel_rfl) (by simp) ?_;refine AllReady.cons rfl (fun K5 hK5=>?_) AllReady.nil;go_simp;refine hK5 _ _ ?_;clear hK5 K5;refine wpAny_done (by kernel_rfl) ?_ _;go_wp2_with fail;go_ret;exact HAF.out _ _ HFI2.out)))
 all_goals
  go_wp2_with fail;go_ret;refine HAT2.out _ _ _ _ ok2 HFI2.out HFI3.out _ ?_;cases ok2<;>rfl
end
end
section
open Go.RowKit Ar
section
variable{w:World}{hb g:Nat}{c:ThV}{TK:List Z3}{AK:List PA}{tw:List (Nat × Nat)}{As:List (PA × Bool)}{TT:List W9}{X:W9}{F:Fx}
def SpC(w:World)(TK:List Z3)(AK:List PA)(tw:List (Nat × Nat))(As:List (PA × Bool))(X:W9)(F:Fx)(e:Ending)(w':World):Prop :=
 ∃ (q:Nat) (s:Bool),e=.returned (.tuple #[.int .i64 q,.bool s])/\q9 (fun _=>False) w w' /\
  (s=true->∃ o p,q=AK.length+o*12+p/\o<TK.length/\p<TK.length/\gr F X.t o=gr F X.t p/\0<X.t.by_ p o) /\
  (s=false->(∀ x∈Y8 As,x.1.tr (gr F X.t)=x.2)/\∀ p∈tw,gr F X.t p.1=gr F X.t p.2\/(∃ q∈F.prs p,gr F X.t q.1≠gr F X.t q.2)\/∀ q∈F.prs p,X.t.by_ q.1 q.2<=0/\X.t.by_ q.2 q.1<=0)
theorem qE6{i j:Nat}(hi:i<TK.length)(hj:j<TK.length)(hg:gr F X.t i=gr F X.t j)(hp:0<X.t.by_ i j\/0<X.t.by_ j i):∃ o p,(if 0<X.t.by_ j i then AK.length+i*12+j else AK.length+j*12+i)=AK.length+o*12+p/\o<TK.length/\p<TK.length/\gr F X.t o=gr F X.t p/\0<X.t.by_ p o:=by
 by_cases h:0<X.t.by_ j i
 ·rw[if_pos h];exact⟨i,j,rfl,hi,hj,hg,h⟩
 ·rw[if_neg h];exact⟨j,i,rfl,hj,hi,hg.symm,hp.resolve_right h⟩
theorem qE7(h:ThR w hb g c TK AK tw As (TT++[X]))(hG:ThG F As X)(hPt:∀ y∈Y8 As,ze1 X.t y)(hF:qg2 F TK tw)(hfar:F.far<=100000)(hT:TK.length<=12)(hA:AK.length<=16)(htw:tw.length<=1000)(hl:TT.length<=200)(hAs:As.length<=190)(hok:∀ x∈As,x.1.at_.Ok/\x.1.i<TK.length/\x.1.j<TK.length)(hbd:∀ x∈As,-1000<=x.1.b/\x.1.b<=1000):
  Calls prog 257 #[.pointer (some ⟨hb,0,none⟩)] w (SpC w TK AK tw As X F):=by
 have kb:=h.blk;obtain⟨sa,sc,hsv⟩:=Q0 h.ss;obtain⟨wa,wc,hwv⟩:=Q0 h.tw;have hbl:=z8 kb;have kbs:=kb;rw[hsv] at kbs;have c3:=z6 kbs 3;have kbw:=kb;rw[hwv] at kbw;have KBW:=q8 kbw;have hFn:=hF.fn;have HGR:Hid (∀ (i:Nat),i<TK.length->∀ W,q9 (fun _=>False) w W->Calls prog 262 #[.pointer (some ⟨hb,0,none⟩),.int .i64 i] W fun e w'=>e=.returned (.int .i64 (gr F X.t i))/\q9 (fun _=>False) W w'):=by intro i hi W hxw;have:=zj3 (h.ext hxw (fun _ _ f=>f)) hT (by omega) (Nat.le_of_lt hi);unfold gr;rw[hFn];exact this
 have HORD:Hid (∀ (i j:Nat),i<TK.length->j<TK.length->gr F X.t i=gr F X.t j->(0<X.t.by_ i j\/0<X.t.by_ j i)->∀ W,q9 (fun _=>False) w W->Calls prog 264 #[.pointer (some ⟨hb,0,none⟩),.int .i64 i,.int .i64 j] W fun e w'=>∃ o p,e=.returned (.int .i64 ((AK.length+o*12+p:Nat):Int))/\(o<TK.length/\p<TK.length/\gr F X.t o=gr F X.t p/\0<X.t.by_ p o)/\q9 (fun _=>False) w w'):=by intro i j hi hj hg hp W hxw;refine(qg0 (h.ext hxw (fun _ _ f=>f)) hT hA (by omega) hi hj).mono ?_;rintro e w' ⟨rfl,hx⟩;obtain⟨o,p,e1,e2⟩:=qE6 (AK:=AK) hi hj hg hp;exact⟨o,p,by rw[e1],e2,hxw.trans hx⟩
 have HBD:Hid (∀ i,i<=TK.length -> -1000000<=gr F X.t i/\gr F X.t i<=1000000):=by intro i hi;have h1:=hG.inv.hi i F.n (by omega) (by omega);have h2:=hG.inv.lo (i:=i) (j:=F.n) (by omega) (by omega);unfold gr;omega
 have H:=q8 h;have HG:=q8 hG;have HPT:=q8 hPt;have HF:=q8 hF;have HOK:=q8 hok;have HBB:=q8 hbd;clear h kb kbs kbw hG hPt hF hok hbd;go_enter func257,ntmps257;go_wp2_with fail
 go_loopw [18] (fun i wr=>∃ j:Nat,j<=As.length/\i=.int .i64 j/\q9 (fun _=>False) w wr/\∀ x∈(Y8 As).take j,x.1.tr (gr F X.t)=x.2) (fun i _=>As.length-(intOf i).toNat)
 case atStart=>exact⟨0,Nat.zero_le _,rfl,q9.refl _ _,fun x hx=>by simp at hx⟩
 case round=>
  obtain⟨j,hj,rfl,hxr,hP⟩:=hrel;have HXR:=q8 hxr;have HP:=q8 hP;clear hP;by_cases hlt:j<As.length
  ·obtain⟨⟨x,yes⟩,hxj⟩:∃ x,As[j]?=some x:=⟨_,List.getElem?_eq_getElem hlt⟩;obtain⟨hxo,hxi,hxjj⟩:=HOK.out _ (List.mem_of_getElem? hxj);have hxb:=HBB.out _ (List.mem_of_getElem? hxj);have hRr:=H.out.ext hxr (fun _ _ f=>f);obtain⟨gs,rfl,hgsl⟩:∃ gs,sa=some ⟨gs,0,none⟩/\gs<wr.heap.size:=by
    rcases hRr.ss.2 with⟨e,e0⟩|⟨g',cap,cur,hv,_,hh,_⟩
    ·omega
    ·rw[hsv] at hv;simp at hv;exact⟨g',hv.1,z8 hh⟩
   have ho:=hRr.ss;rw[hsv] at ho;obtain⟨q0,q1,q2,q3,q4⟩:=zT2 hxj;have x0:=(ho.cellAt (j*5) (by omega)).trans q0;have x1:=(ho.cellAt (j*5+1) (by omega)).trans q1;have x2:=(ho.cellAt (j*5+2) (by omega)).trans q2;have x3:=(ho.cellAt (j*5+3) (by omega)).trans q3;have x4:=(ho.cellAt (j*5+4) (by omega)).trans q4;have HXJ:=q8 hxj;have HXO:=q8 hxo;obtain⟨wd,xi,xj,xb⟩:=x;simp only at x0 x1 x2 x3 x4 hxi hxjj hxb;obtain⟨V,hV⟩:∃ V,wr.alloc (.cells #[.string wd,.int .i64 xi,.int .i64 xj,.int .i64 xb,.bool yes] 382)=V:=⟨_,rfl⟩;have hxV:q9 (fun _=>False) wr V:=by rw[<- hV];exact(q9.refl _ wr).alloc _
   have kA:V.heap[wr.heap.size]?=some (.cells #[.string wd,.int .i64 xi,.int .i64 xj,.int .i64 xb,.bool yes] 382):=by rw[<- hV];exact heap_alloc_new wr _
   have v0:=z6 kA 0;have v1:=z6 kA 1;have v2:=z6 kA 2;have v3:=z6 kA 3;have v4:=z6 kA 4;have hAl:=z8 kA;have KA:=q8 kA;have HVE:=q8 hV;have HXV:=q8 hxV;clear hxr hRr ho q0 q1 q2 q3 q4 hxj hxo hV hxV kA;go_wp2_with fail;rw[HVE.out]
   go_region
   go_wp2_with fail;have HGX:Hid (∀ (i:Nat) (W:World),i<TK.length->q9 (fun _=>False) wr W->W.heap[wr.heap.size]?=some (.cells #[.string wd,.int .i64 xi,.int .i64 xj,.int .i64 xb,.bool yes] 382)->Calls prog 262 #[.pointer (some ⟨hb,0,none⟩),.int .i64 i] W fun e w'=>e=.returned (.int .i64 (gr F X.t i))/\q9 (fun _=>False) wr w'/\w'.heap[wr.heap.size]?=some (.cells #[.string wd,.int .i64 xi,.int .i64 xj,.int .i64 xb,.bool yes] 382)) :=
    fun i W hi hx hk=>(HGR.out i hi W (HXR.out.trans hx)).mono (fun e w' h=>⟨h.1,hx.trans h.2,(h.2.block _ (z8 hk) (fun f=>f)).trans hk⟩)
   obtain⟨r,hr⟩:∃ r,zi2 wd.toList (gr F X.t xi) (gr F X.t xj) xb=r:=⟨_,rfl⟩;have HHO:Hid (∀ W,Calls prog 263 #[.string wd,.int .i64 (gr F X.t xi),.int .i64 (gr F X.t xj),.int .i64 xb] W fun e w'=>e=.returned (.bool r)/\w' = W):=by intro W;have:=qp3 (w:=W) ⟨wd,xi,xj,xb⟩ (gr F X.t xi) (gr F X.t xj) HXO.out (HBD.out xj (Nat.le_of_lt hxjj)) hxb;rw[hr] at this;exact this
   have HR:=q8 hr;have vd:V.drew.heap[wr.heap.size]?=some (.cells #[.string wd,.int .i64 xi,.int .i64 xj,.int .i64 xb,.bool yes] 382):=KA.out;have vd2:V.drew.drew.heap[wr.heap.size]?=some (.cells #[.string wd,.int .i64 xi,.int .i64 xj,.int .i64 xb,.bool yes] 382):=KA.out;have xd:q9 (fun _=>False) wr V.drew:=HXV.out.drew;have xd2:q9 (fun _=>False) wr V.drew.drew:=HXV.out.drew.drew;clear hr;rename_i K aK
   suffices hK:∀ W2,q9 (fun _=>False) wr W2->K { tmps:=#[.pointer (some ⟨hb,0,none⟩),undef,u2,u3,undef,.pointer (some ⟨wr.heap.size,0,none⟩),.int .i64 ↑xi,.int .i64 ↑xj,undef,undef,undef,undef,undef,.pointer (some ⟨hb,0,none⟩),.pointer (some ⟨hb,0,none⟩),.pointer (some ⟨hb,3,none⟩),.slice (some ⟨gs,0,none⟩) As.length sc,.int .i64 ↑As.length,.int .i64 ↑j,.bool true,.pointer (some ⟨gs,j*5,none⟩),.agg #[.string wd,.int .i64 ↑xi,.int .i64 ↑xj,.int .i64 xb,.bool yes],.pointer (some ⟨wr.heap.size,0,none⟩),.pointer (some ⟨wr.heap.size,1,none⟩),.pointer (some ⟨wr.heap.size,1,none⟩),.int .i64 ↑xi,.pointer (some ⟨wr.heap.size,0,none⟩),.pointer (some ⟨wr.heap.size,1,none⟩),.pointer (some ⟨wr.heap.size,2,none⟩),.int .i64 ↑xj,.pointer (some ⟨wr.heap.size,0,none⟩),.pointer (some ⟨wr.heap.size,0,none⟩),.string wd,.pointer (some ⟨hb,0,none⟩),.int .i64 ↑xi,.int .i64 (gr F X.t xi),.pointer (some ⟨hb,0,none⟩),.int .i64 ↑xj,.int .i64 (gr F X.t xj),.pointer (some ⟨wr.heap.size,0,none⟩),.pointer (some ⟨wr.heap.size,3,none⟩),.int .i64 xb,.bool r,.pointer (some ⟨wr.heap.size,4,none⟩),.bool yes,.bool (r != yes),u46,u47,u48,u49,u50,undef,undef,undef,undef,undef,undef,undef,undef,undef,undef,undef,undef,undef,undef,undef,undef,undef,undef,undef,undef,undef,undef,undef,undef,undef,undef,undef,undef,undef,undef,undef],defers:=[] } W2 by
    have HSK:=q8 hK;clear hK
    go_region_law (go_simp;go_wp2_with (first
     | (go_at_call 262;refine(HGX.out _ _ (by assumption) (by assumption) (by assumption)).mono ?_;rintro e wq ⟨rfl,hxq,hkq⟩;have vq0:=z6 hkq 0;have vq3:=z6 hkq 3;have vq4:=z6 hkq 4)
     | (go_at_call 263;refine(HHO.out _).mono ?_;rintro e wh ⟨rfl,rfl⟩)
     | fail))
    all_goals exact HSK.out _ (by assumption)
   intro W2 hx2;refine aK _ _ ?_;have hmem:(PA.at_ ⟨wd,xi,xj,xb⟩,yes)∈Y8 As:=List.mem_of_getElem? (zm7 HXJ.out);have hag:=fun hne=>ji1 HG.out.inv HXO.out (by show xi<F.n;omega) (by show xj<F.n;omega) (HG.out.tk _ hmem) (HPT.out _ hmem) hne
   have HAG:=q8 hag;have HX2:=q8 hx2;clear aK hag hmem hx2 x0 x1 x2 x3 x4 v0 v1 v2 v3 v4 vd vd2 xd xd2;by_cases hry:r=yes
   ·subst hry;have hb:(r != r)=false:=by simp
    rw[hb];go_wp2_with fail
    go_roundw
    case measure=>simp[intOf];omega
    case rel=>
     refine⟨j+1,by omega,by go_num,HXR.out.trans HX2.out,fun y hy=>?_⟩;rw[List.take_add_one,zm7 HXJ.out] at hy;rcases List.mem_append.1 hy with e|e
     ·exact HP.out y e
     ·simp at e;subst e;exact HR.out
   ·have hb:(r != yes)=true:=by simp[hry]
    rw[hb];obtain⟨hg1,hg2⟩:=HAG.out (fun e=>hry (HR.out.symm.trans e));have HO:=q8 (HORD.out xi xj hxi hxjj hg1 hg2 W2 (HXR.out.trans HX2.out));clear hg1 hg2 hb hry;go_wp2_with fail;refine HO.out.mono ?_;rintro e w4 ⟨o,p,rfl,hop,hx4⟩;have HOP:=q8 hop;have HX4:=q8 hx4;clear hop hx4;go_wp2_with fail;refine bodyPost_ret (v:=.tuple #[.int .i64 ((AK.length+o*12+p:Nat):Int),.bool true]) (by simp[results,results257,go_sem]) rfl ⟨_,true,rfl,HX4.out,fun _=>⟨o,p,rfl,HOP.out⟩,fun e=>by simp at e⟩
  ·have hjl:j=As.length:=by omega
   subst hjl;have kbr:=(hxr.block _ (z8 KBW.out) (fun f=>f)).trans KBW.out;have y2:=z6 kbr 2;have hbr:=z8 kbr;have HALL:=q8 (fun(x:At × Bool) (hx:x∈Y8 As)=>HP.out x (by rw[show As.length=(Y8 As).length by simp[Y8],List.take_length];exact hx));clear hxr kbr HP;go_wp2_with fail
   go_loopw [56] (fun i wr=>∃ k:Nat,k<=tw.length/\i=.int .i64 k/\q9 (fun _=>False) w wr/\∀ p∈tw.take k,gr F X.t p.1=gr F X.t p.2\/(∃ q∈F.prs p,gr F X.t q.1≠gr F X.t q.2)\/∀ q∈F.prs p,X.t.by_ q.1 q.2<=0/\X.t.by_ q.2 q.1<=0) (fun i _=>tw.length-(intOf i).toNat)
   case atStart=>exact⟨0,Nat.zero_le _,rfl,HXR.out,fun x hx=>by simp at hx⟩
   case round=>
    obtain⟨k,hk,rfl,hxt,hQ⟩:=hrel;have HXT:=q8 hxt;have HQ:=q8 hQ;clear hQ;by_cases hlt2:k<tw.length
    ·obtain⟨⟨a,b⟩,hpk⟩:∃ p,tw[k]?=some p:=⟨_,List.getElem?_eq_getElem hlt2⟩;have hRt:=H.out.ext hxt (fun _ _ f=>f);obtain⟨gw,rfl,hgwl⟩:∃ gw,wa=some ⟨gw,0,none⟩/\gw<wr.heap.size:=by
      rcases hRt.tw.2 with⟨e,e0⟩|⟨g',cap,cur,hv,_,hh,_⟩
      ·omega
      ·rw[hwv] at hv;simp at hv;exact⟨g',hv.1,z8 hh⟩
     have ho:=hRt.tw;rw[hwv] at ho;obtain⟨q0,q1⟩:=qg3 hpk;have x0:=(ho.cellAt (k*2) (by omega)).trans q0;have x1:=(ho.cellAt (k*2+1) (by omega)).trans q1;simp only at x0 x1;have hmem:=List.mem_of_getElem? hpk;obtain⟨x,y,ar,zs,hxa,hyb,hPrs,hprs⟩:=HF.out.prs _ hmem;simp only at hxa hyb;have ha:=(List.getElem?_eq_some_iff.1 hxa).1;have hb':=(List.getElem?_eq_some_iff.1 hyb).1;obtain⟨V,hV⟩:∃ V,wr.alloc (.cells #[.int .i64 a,.int .i64 b] 151)=V:=⟨_,rfl⟩;have hxV:q9 (fun _=>False) wr V:=by rw[<- hV];exact(q9.refl _ wr).alloc _
     have kA:V.heap[wr.heap.size]?=some (.cells #[.int .i64 a,.int .i64 b] 151):=by rw[<- hV];exact heap_alloc_new wr _
     have v0:=z6 kA 0;have v1:=z6 kA 1;have hAl:=z8 kA;have HGX:Hid (∀ (i:Nat) (W:World),i<TK.length->q9 (fun _=>False) wr W->W.heap[wr.heap.size]?=some (.cells #[.int .i64 a,.int .i64 b] 151)->Calls prog 262 #[.pointer (some ⟨hb,0,none⟩),.int .i64 i] W fun e w'=>e=.returned (.int .i64 (gr F X.t i))/\q9 (fun _=>False) wr w'/\w'.heap[wr.heap.size]?=some (.cells #[.int .i64 a,.int .i64 b] 151)) :=
      fun i W hi hx hk=>(HGR.out i hi W (HXT.out.trans hx)).mono (fun e w' h=>⟨h.1,hx.trans h.2,(h.2.block _ (z8 hk) (fun f=>f)).trans hk⟩)
     have HCH:Hid (∀ W,q9 (fun _=>False) wr W->Calls prog 265 #[.pointer (some ⟨hb,0,none⟩),.agg #[.int .i64 a,.int .i64 b]] W fun e w'=>∃ (i j:Nat) (s:Bool),e=.returned (.tuple #[.int .i64 i,.int .i64 j,.bool s])/\q9 (fun _=>False) wr w'/\(s=true->∃ z∈zs,z.1=(i,j)/\GE X.t z/\¬KE X.t z)/\(s=false->(∃ z∈zs,¬GE X.t z)\/∀ z∈zs,KE X.t z)) :=
      fun W hx=>(qp5 (hRt.ext hx (fun _ _ f=>f)) hxa hyb hT (by omega) hPrs).mono (fun e w' ⟨i,j,s,h1,h2,h3⟩=>⟨i,j,s,h1,hx.trans h2,h3⟩)
     have vd:V.drew.heap[wr.heap.size]?=some (.cells #[.int .i64 a,.int .i64 b] 151):=kA;have xd:q9 (fun _=>False) wr V.drew:=hxV.drew;have HPK:=q8 hpk;have HPRS:=q8 hprs;have HVE:=q8 hV;clear hxt hRt ho q0 q1 hpk hmem hxa hyb hPrs hprs hV hxV kA;by_cases hgq:gr F X.t a=gr F X.t b
     ·have hbq:(gr F X.t a==gr F X.t b)=true:=by simp[hgq]
      have HGQ:=q8 hgq;clear hgq;go_wp2_with fail;rw[HVE.out]
      go_region_law (go_simp;go_wp2_with (go_at_call 262;refine(HGX.out _ _ (by assumption) (by assumption) (by assumption)).mono ?_;rintro e wq ⟨rfl,hxq,hkq⟩;have vq0:=z6 hkq 0;have vq1:=z6 hkq 1))
      all_goals
       have HXQ:=q8 hxq;clear hxq;go_wp2_with fail
       go_roundw
       case measure=>simp[intOf];omega
       case rel=>
        refine⟨k+1,by omega,by go_num,HXT.out.trans HXQ.out,fun y hy=>?_⟩;rw[List.take_add_one,HPK.out] at hy;rcases List.mem_append.1 hy with e|e
        ·exact HQ.out y e
        ·simp at e;subst e;exact .inl HGQ.out
     ·have hbq:(gr F X.t a==gr F X.t b)=false:=by simp[hgq]
      clear hgq;go_wp2_with fail;rw[HVE.out]
      go_region_law (go_simp;go_wp2_with (go_at_call 262;refine(HGX.out _ _ (by assumption) (by assumption) (by assumption)).mono ?_;rintro e wq ⟨rfl,hxq,hkq⟩;have vq0:=z6 hkq 0;have vq1:=z6 hkq 1;have hql:=z8 hkq))
      all_goals
       have HXQ:=q8 hxq;have HCQ:=q8 (HCH.out _ hxq);clear hxq;go_wp2_with fail;refine HCQ.out.mono ?_;rintro e w5 ⟨i,j',sm,rfl,hx5,hs1,hs2⟩;have HX5:=q8 hx5;have HS1:=q8 hs1;have HS2:=q8 hs2;clear hx5 hs1 hs2 HCQ;cases sm with
       | true=>
        obtain⟨z,hz,hzz,hge,hke⟩:=HS1.out (by simp);obtain⟨hi1,hi2⟩:z.1.1=i/\z.1.2=j':=by rw[hzz];exact⟨rfl,rfl⟩
        have hzi:i<TK.length:=by have:=z.2.1;omega
        have hzj:j'<TK.length:=by have:=z.2.2;omega
        have hg1:gr F X.t i=gr F X.t j':=by unfold GE at hge;rw[hi1,hi2,<- hFn] at hge;exact hge
        have hg2:0<X.t.by_ i j'\/0<X.t.by_ j' i:=by unfold KE at hke;rw[hi1,hi2] at hke;omega
        have HO:=q8 (HORD.out i j' hzi hzj hg1 hg2 w5 (HXT.out.trans HX5.out));clear hz hzz hge hke hi1 hi2 hg1 hg2;go_wp2_with fail;refine HO.out.mono ?_;rintro e w6 ⟨o,p,rfl,hop,hx6⟩;have HOP:=q8 hop;have HX6:=q8 hx6;clear hop hx6;go_wp2_with fail;refine bodyPost_ret (v:=.tuple #[.int .i64 ((AK.length+o*12+p:Nat):Int),.bool true]) (by simp[results,results257,go_sem]) rfl ⟨_,true,rfl,HX6.out,fun _=>⟨o,p,rfl,HOP.out⟩,fun e=>by simp at e⟩
       | false=>
        go_wp2_with fail
        go_roundw
        case measure=>simp[intOf];omega
        case rel=>
         refine⟨k+1,by omega,by go_num,HXT.out.trans HX5.out,fun y hy=>?_⟩;rw[List.take_add_one,HPK.out] at hy;rcases List.mem_append.1 hy with e|e
         ·exact HQ.out y e
         ·simp at e;subst e;rcases HS2.out (by simp) with⟨z,hz,hn⟩|hall
          ·refine .inr (.inl ⟨z.1,by rw[HPRS.out];exact List.mem_map_of_mem hz,fun e=>hn ?_⟩);unfold gr at e;rw[hFn] at e;exact e
          ·refine .inr (.inr fun q hq=>?_);rw[HPRS.out] at hq;obtain⟨z,hz,rfl⟩:=List.mem_map.1 hq;exact hall z hz
    ·have hkl:k=tw.length:=by omega
     subst hkl;clear hxt;go_wp2_with fail;refine bodyPost_ret (v:=.tuple #[.int .i64 0,.bool false]) (by simp[results,results257,go_sem]) rfl ⟨0,false,rfl,HXT.out,fun e=>by simp at e,fun _=>⟨HALL.out,fun p hp=>HQ.out p (by rw[List.take_length];exact hp)⟩⟩
end
end
end Go.Proofs.YtegbdaffhpiacaaGreatDoor
