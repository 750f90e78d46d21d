/- A theory in memory: Assume. -/
import Derived.Test.YtegbdaffhpiacaaGreatDoorChn28
import Derived.Test.YtegbdaffhpiacaaGreatDoorChn31
import Derived.Test.YtegbdaffhpiacaaGreatDoorChn32
import Derived.Deep.AppendLies
namespace Go.Proofs.YtegbdaffhpiacaaGreatDoor
open Go.RowKit Ar
attribute [local go_sem ↓] loadRow_in bsRow_in
section
variable {w:World} {hb g:Nat} {c:ThV} {TK:List TKey} {AK:List PA} {tw:List (Nat × Nat)} {As:List (PA × Bool)} {TT:List Tab} {X:Tab} {F:Fx}
structure ThG (F:Fx) (As:List (PA × Bool)) (X:Tab):Prop where
 inv:TInv (F.n+1) F.far F.V (HA (asAt As)) As.length X.t
 tk:∀ x∈asAt As,Taken X.t x
 nums:Nums F X.t
def AsC (w:World) (hb g:Nat) (c:ThV) (TK:List TKey) (AK:List PA) (tw:List (Nat × Nat)) (As:List (PA × Bool)) (TT:List Tab) (X:Tab) (F:Fx) (x:PA) (yes:Bool) (e:Ending) (w':World):Prop :=
 ∃ Y ok g' sv bv,e=.returned (.bool ok)/\ThR w' hb g' ⟨c.tv,c.av,c.wv,sv,bv⟩ TK AK tw (As++[(x,yes)]) (TT++[X]++[Y])/\Ext (fun k=>k=hb\/k=g\/c.sv.ownBlock=some k) w w'/\(g' = g\/w.heap.size<=g')/\(∀ k,sv.ownBlock=some k->c.sv.ownBlock=some k\/w.heap.size<=k) /\
  (ok=true->ThG F (As++[(x,yes)]) Y/\(∀ y∈asAt (As++[(x,yes)]),Parted Y.t y)/\∀ p∈tw,Mapped F Y.t p) /\
  (ok=false->Below3 (As.length+1) Y.wrong/\∀ v,F.V v->¬Hs (HA (asAt (As++[(x,yes)]))) Y.wrong v)
set_option maxRecDepth 100000 in
set_option maxHeartbeats 2000000 in
theorem assume_any (h:ThR w hb g c TK AK tw As (TT++[X])) {q:Nat} {yes:Bool} (hG:ThG F As X) (hF:FxOk F TK tw) (hfar:F.far<=1000000) (hT:TK.length<=12) (hA:AK.length<=16) (htw:tw.length<=1000) (hq:q<=1000) (hl:TT.length<=200) (hAs:As.length<=188) (hok:∀ x∈As,x.1.at_.Ok/\x.1.i < TK.length/\x.1.j < TK.length) (hxo:(paQ AK q).at_.Ok/\(paQ AK q).i < TK.length/\(paQ AK q).j < TK.length) (hxb : -1000<=(paQ AK q).b/\(paQ AK q).b<=1000) :
  Calls Tryz.prog 253 #[.pointer (some ⟨hb,0,none⟩),.int .i64 q,.bool yes] w (AsC w hb g c TK AK tw As TT X F (paQ AK q) yes):=by
 obtain ⟨x,hxq⟩:∃ x,paQ AK q=x:=⟨_,rfl⟩
 rw [hxq] at hxo hxb ⊢
 have HXQ:=hide hxq
 clear hxq
 have kb:=h.blk
 obtain ⟨sa,sc,hsv⟩:=row_shape h.ss
 have hbl:=block_lt kb
 rw [hsv] at kb
 have c3:=cell_of_block kb 3
 have HOF:Hid (Calls Tryz.prog 179 #[.int .i64 As.length] w fun e w'=>e=.returned (.agg #[.int .u64 (M3.of As.length).a.toNat,.int .u64 (M3.of As.length).b.toNat,.int .u64 (M3.of As.length).c.toNat])/\Ext (fun _=>False) w w'):=hide (of_any As.length (by omega) w)
 have H:=hide h
 obtain ⟨i0,hi,hz0,hz1,hz2⟩:=info_parts infoAns
 have HG:=hide hG
 have HF:=hide hF
 have HOK:=hide hok
 have HXO:=hide hxo
 have HXB:=hide hxb
 clear h kb hG hF hok hxo hxb
 go_enter Tryz.func253,Tryz.ntmps253
 go_wp2_with fail
 refine HOF.out.mono ?_
 rintro e w1 ⟨rfl,hx1⟩
 obtain ⟨V1,hV1⟩:∃ V1,w1.alloc (.cells #[.int .u64 (M3.of As.length).a.toNat,.int .u64 (M3.of As.length).b.toNat,.int .u64 (M3.of As.length).c.toNat] 197)=V1:=⟨_,rfl⟩
 have hxV1:Ext (fun _=>False) w V1:=by rw [<- hV1];exact hx1.alloc _
 have kM:V1.heap[w1.heap.size]?=some (.cells #[.int .u64 (M3.of As.length).a.toNat,.int .u64 (M3.of As.length).b.toNat,.int .u64 (M3.of As.length).c.toNat] 197):=by rw [<- hV1];exact heap_alloc_new w1 _
 have KM:=hide kM
 have HVE:=hide hV1
 have h1:=H.out.ext hxV1 (fun _ _ f=>f)
 have HAT:=hide (thAtom_any h1 q (by omega) hA)
 have H1:=hide h1
 have HX1:=hide hxV1
 clear h1 hx1 kM hV1 hxV1
 go_wp2_with fail
 rw [HVE.out]
 refine HAT.out.mono ?_
 rintro e w2 ⟨rfl,hx2⟩
 rw [HXQ.out]
 obtain ⟨V2,hV2⟩:∃ V2,w2.alloc (.cells #[.string x.wd,.int .i64 x.i,.int .i64 x.j,.int .i64 x.b] 153)=V2:=⟨_,rfl⟩
 have hxV2:Ext (fun _=>False) V1 V2:=by rw [<- hV2];exact hx2.alloc _
 have kA:V2.heap[w2.heap.size]?=some (.cells #[.string x.wd,.int .i64 x.i,.int .i64 x.j,.int .i64 x.b] 153):=by rw [<- hV2];exact heap_alloc_new w2 _
 have h2:=H1.out.ext hxV2 (fun _ _ f=>f)
 have H2:=hide h2
 have kM2:=(hxV2.block _ (block_lt KM.out) (fun f=>f)).trans KM.out
 have KM2:=hide kM2
 have HX2:=hide (HX1.out.trans hxV2)
 have kb:=h2.blk
 rw [hsv] at kb
 have c3:=cell_of_block kb 3
 have HO2:=hide (hsv ▸ h2.ss)
 have a0:=cell_of_block kA 0
 have a1:=cell_of_block kA 1
 have a2:=cell_of_block kA 2
 have a3:=cell_of_block kA 3
 have KA:=hide kA
 have KB:=hide kb
 have HVE2:=hide hV2
 have hbl2:=block_lt kb
 have hal2:=block_lt kA
 clear h2 hx2 kb kA kM2 hV2 hxV2
 clear HVE KM HOF HAT H H1 HX1
 go_wp2_with fail
 rw [HVE2.out]
 clear HVE2
 rename_i K aK
 suffices hK:∀ (gs cap':Nat) (W3:World),ThR W3 hb g ⟨c.tv,c.av,c.wv,.slice (some ⟨gs,0,none⟩) (As.length+1) cap',c.bv⟩ TK AK tw (As++[(x,yes)]) (TT++[X])->Ext (fun k=>k=hb\/c.sv.ownBlock=some k) V2 W3->(c.sv.ownBlock=some gs\/V2.heap.size<=gs)->K { tmps:=#[.pointer (some ⟨hb,0,none⟩),.int .i64 q,.bool yes,undef,undef,undef,.bool false,.pointer (some ⟨w1.heap.size,0,none⟩),.pointer (some ⟨w2.heap.size,0,none⟩),.pointer (some ⟨hb,0,none⟩),.pointer (some ⟨hb,0,none⟩),.pointer (some ⟨hb,3,none⟩),.slice sa As.length sc,.int .i64 As.length,.agg #[.int .u64 (M3.of As.length).a.toNat,.int .u64 (M3.of As.length).b.toNat,.int .u64 (M3.of As.length).c.toNat],.pointer (some ⟨hb,0,none⟩),.int .i64 q,.agg #[.string x.wd,.int .i64 x.i,.int .i64 x.j,.int .i64 x.b],.pointer (some ⟨hb,0,none⟩),.pointer (some ⟨hb,0,none⟩),.pointer (some ⟨hb,0,none⟩),.pointer (some ⟨hb,3,none⟩),.slice sa As.length sc,.agg #[.string x.wd,.int .i64 x.i,.int .i64 x.j,.int .i64 x.b],.bool yes,.agg #[.string x.wd,.int .i64 x.i,.int .i64 x.j,.int .i64 x.b,.bool yes],.slice (some ⟨V2.heap.size,0,none⟩) 1 1,.slice (some ⟨gs,0,none⟩) ((As.length+1:Nat)) cap',.pointer (some ⟨hb,0,none⟩),.pointer (some ⟨hb,3,none⟩),undef,undef,undef,undef,undef,undef,undef,undef,undef,undef,undef,undef,undef,undef,undef,undef,undef,undef,undef,undef,undef,undef,undef],defers:=[] } W3 by
  have HSK:=hide hK
  clear hK
  go_region_law (first | (refine step_append_lies _ (by rfl) _ _ _ (by rfl) 0 382 i0 _ 5 48 Tryz.underlying191 hi hz0 hz1 hz2 rfl (by omega) (.slice sa As.length sc) As.length (ansCells As) (by rfl) (by first | exact HO2.out.alloc _ | exact (HO2.out.alloc _).drew) ⟨V2.heap.size,0,none⟩ 1 1 [.string x.wd,.int .i64 x.i,.int .i64 x.j,.int .i64 x.b,.bool yes] (by rfl) (by rfl) (World.news_of_block (cs:=#[.string x.wd,.int .i64 x.i,.int .i64 x.j,.int .i64 x.b,.bool yes]) (t:=382) (fr:=(0,0)) (heap_alloc_new V2 _)) (by simp [Value.oneCell']) (by omega) (by unfold maxLen;omega) (by omega) (Nat.zero_le _) (V2.heap.size+1) (by simp) ?_;intro gs cap' w3 hown3 hgrow hat hlt3;have kb3:w3.heap[hb]?=some (.cells #[c.tv,c.av,c.wv,.slice sa As.length sc,c.bv] 194):=(hgrow.block hb (by simp;omega) (fun e=>own_not HO2.out KB.out (by decide) e.symm)).trans ((Below.heap_alloc V2 _ hb hbl2).trans KB.out);have d3:=cell_of_block kb3 3;have d3f:=frozen_of_block kb3 3) | go_simp | fail)
  all_goals
   obtain ⟨r1,r2⟩:=H2.out.pushS (x:=x) (yes:=yes) (by first | exact (Ext.refl _ V2).alloc _ | exact ((Ext.refl _ V2).alloc _).drew) (hsv ▸ hgrow) hown3
   exact HSK.out gs cap' _ r1 r2 (hat.imp (fun e=>by rw [hsv];exact e) (fun e=>by omega))
 intro gs cap' W3 hR hx3 hgs
 have HGS:=hide hgs
 clear hgs
 refine aK _ _ ?_
 clear aK c3 a0 a1 a2 a3 hi hz0 hz1 hz2 hal2 hbl2
 obtain ⟨cap0,C,hbv,kg,hC,hcap,hcm,hall⟩:=hR.tb.ex
 have hTX:=hall TT.length X (by simp)
 have HNOW:Hid (∀ W,Ext (fun _=>False) W3 W->Calls Tryz.prog 259 #[.pointer (some ⟨hb,0,none⟩)] W fun e w'=>e=.returned (.pointer (some ⟨g,TT.length * 681,none⟩))/\w' = W.drew):=by
  intro W hxw
  have:=now_any (hR.ext hxw (fun _ _ f=>f)) (by simp) (by simp;omega)
  rw [List.length_append,List.length_singleton,Nat.add_sub_cancel] at this
  exact this
 have HLD:∀ W,W.heap[g]?=W3.heap[g]?->(loadRow ⟨g,TT.length * 681,none⟩ 681).run Tryz.prog W=.ok (C.extract (TT.length * 681) (TT.length * 681+681)) W:=by
  intro W hw
  refine load_run _ _ _ _ _ (cut_size hTX) (fun j v hv=>?_)
  have hadd:(⟨g,TT.length * 681,none⟩:Addr).add j=⟨g,TT.length * 681+j,none⟩:=by unfold Addr.add;split <;> simp_all
  rw [hadd,cell_of_block (hw.trans kg) _]
  rw [Array.getElem?_extract] at hv
  split at hv
  ·exact hv
  ·simp at hv
 have hld1:=HLD W3 rfl
 have hld2:=HLD W3.drew rfl
 have hld3:=HLD W3.drew.drew rfl
 clear HLD
 have HOWN:Hid (W3.ownsRow 0 203 681 c.bv (TT.length+1) (C.toList.take ((TT.length+1) * 681))):=by
  obtain ⟨cap1,C1,e1,e2,_,e3⟩:=hR.tb.own
  rw [kg] at e2
  obtain rfl:C=C1:=by simpa using e2
  rw [List.length_append,List.length_singleton] at e3
  exact e3
 have hbv':c.bv=.slice (some ⟨g,0,none⟩) ((TT.length+1:Nat)) cap0:=by rw [List.length_append,List.length_singleton] at hbv;exact hbv
 have kb3:=hR.blk
 simp only at kb3
 rw [hbv'] at kb3
 have d4:=cell_of_block kb3 4
 have HR:=hide hR
 have HX3:=hide hx3
 have KB3:=hide kb3
 have KG:=hide kg
 have hbl3:=block_lt kb3
 have hgl3:=block_lt kg
 obtain ⟨i1,hi,hz0,hz1,hz2⟩:=info_parts infoTab
 obtain ⟨D,hD⟩:∃ D,C.extract (TT.length * 681) (TT.length * 681+681)=D:=⟨_,rfl⟩
 have hDs:=cut_size hTX
 obtain ⟨m,hm⟩:∃ m,TT.length * 681=m:=⟨_,rfl⟩
 rw [hD] at hld1 hld2 hld3 hDs
 have hONE:∀ u∈D.toList,u.oneCell' = true:=by
  rw [<- hD]
  exact hTX.cut.one_all (cut_size hTX)
 rw [hm] at hld1 hld2 hld3 HNOW
 have HDE:=hide hD
 have HME:=hide hm
 have hbs:=fun W=>bsRow_run W D hDs
 have HNG:=hide hR.not_hb.1
 rw [hbv'] at HOWN
 clear hR hx3 kb3 kg hC hcap hcm hall hTX hD hm hbv
 go_wp2_with fail
 have HONE:=hide (hONE)
 clear hONE
 rename_i K2 aK2
 suffices hK2:∀ (g' cap2:Nat) (W4:World),ThR W4 hb g' ⟨c.tv,c.av,c.wv,.slice (some ⟨gs,0,none⟩) (As.length+1) cap',.slice (some ⟨g',0,none⟩) (TT.length+1+1) cap2⟩ TK AK tw (As++[(x,yes)]) (TT++[X]++[X])->Ext (fun k=>k=hb\/k=g) W3 W4->(g' = g\/W3.heap.size<=g')->K2 { tmps:=#[.pointer (some ⟨hb,0,none⟩),.int .i64 q,.bool yes,undef,undef,undef,.bool false,.pointer (some ⟨w1.heap.size,0,none⟩),.pointer (some ⟨w2.heap.size,0,none⟩),.pointer (some ⟨hb,0,none⟩),.pointer (some ⟨hb,0,none⟩),.pointer (some ⟨hb,3,none⟩),.slice sa As.length sc,.int .i64 As.length,.agg #[.int .u64 (M3.of As.length).a.toNat,.int .u64 (M3.of As.length).b.toNat,.int .u64 (M3.of As.length).c.toNat],.pointer (some ⟨hb,0,none⟩),.int .i64 q,.agg #[.string x.wd,.int .i64 x.i,.int .i64 x.j,.int .i64 x.b],.pointer (some ⟨hb,0,none⟩),.pointer (some ⟨hb,0,none⟩),.pointer (some ⟨hb,0,none⟩),.pointer (some ⟨hb,3,none⟩),.slice sa As.length sc,.agg #[.string x.wd,.int .i64 x.i,.int .i64 x.j,.int .i64 x.b],.bool yes,.agg #[.string x.wd,.int .i64 x.i,.int .i64 x.j,.int .i64 x.b,.bool yes],.slice (some ⟨V2.heap.size,0,none⟩) 1 1,.slice (some ⟨gs,0,none⟩) ((As.length+1:Nat)) cap',.pointer (some ⟨hb,0,none⟩),.pointer (some ⟨hb,3,none⟩),.pointer (some ⟨hb,0,none⟩),.pointer (some ⟨hb,0,none⟩),.pointer (some ⟨hb,0,none⟩),.pointer (some ⟨hb,4,none⟩),.slice (some ⟨g,0,none⟩) ((TT.length+1:Nat)) cap0,.pointer (some ⟨hb,0,none⟩),.pointer (some ⟨g,m,none⟩),.pointer (some ⟨g,m,none⟩),.agg D,.slice (some ⟨W3.heap.size,0,none⟩) 1 1,.slice (some ⟨g',0,none⟩) ((TT.length+1+1:Nat)) cap2,.pointer (some ⟨hb,0,none⟩),.pointer (some ⟨hb,4,none⟩),undef,undef,undef,undef,undef,undef,undef,undef,undef,undef],defers:=[] } W4 by
  have HSK:=hide hK2
  clear hK2
  go_region_law (first | (refine step_append_lies _ (by rfl) _ _ _ (by rfl) 0 203 i1 _ 681 5448 Tryz.underlying192 hi hz0 hz1 hz2 tabZero_size (by omega) (.slice (some ⟨g,0,none⟩) (TT.length+1) cap0) (TT.length+1) (C.toList.take ((TT.length+1) * 681)) (by rfl) (by first | exact ((HOWN.out.alloc _).drew).drew | exact HOWN.out.drew.drew.alloc _) ⟨W3.heap.size,0,none⟩ 1 1 D.toList (by rfl) (by simp [hDs]) (World.news_of_block (cs:=D) (t:=203) (fr:=(0,0)) (heap_alloc_new W3 _)) HONE.out (by omega) (by unfold maxLen;omega) (by omega) (Nat.zero_le _) (W3.heap.size+1) (by simp) ?_;intro g' cap2 w5 hown5 hgrow5 hat5 hlt5;have kb5:w5.heap[hb]?=some (.cells #[c.tv,c.av,c.wv,.slice (some ⟨gs,0,none⟩) (As.length+1) cap',.slice (some ⟨g,0,none⟩) (TT.length+1) cap0] 194):=(hgrow5.block hb (by simp;omega) (fun e=>HNG.out (by simpa [Value.ownBlock] using e.symm))).trans ((Below.heap_alloc W3 _ hb hbl3).trans KB3.out);have d4:=cell_of_block kb5 4;have d4f:=frozen_of_block kb5 4) | (go_simp;go_wp2_with (go_at_call 259;refine (HNOW.out _ (by first | exact Ext.refl _ _ | exact (Ext.refl _ _).drew)).mono ?_;rintro e wn ⟨rfl,rfl⟩)) | fail)
  all_goals
   obtain ⟨r1,r2⟩:=HR.out.pushB KG.out (by exact ((((Ext.refl (fun _=>False) W3).alloc (.cells D 203)).drew).drew)) hgrow5 (by rw [HDE.out];exact hown5)
   exact HSK.out g' cap2 _ r1 r2 (hat5.imp (fun e=>by simpa [Value.ownBlock] using e.symm) (fun e=>by omega))
 intro g' cap2 W4 hR4 hx4 hgn
 refine aK2 _ _ ?_
 clear aK2 hbs hld1 hld2 hld3 HNOW HOWN hi hz0 hz1 hz2 d4 HONE hDs HDE HME
 have kA3:=(HX3.out.block _ (block_lt KA.out) (fun e=>e.elim (fun e=>by have:=KB.out;rw [<- e,KA.out] at this;simp at this) (fun e=>own_not (hsv ▸ HO2.out) KA.out (by decide) e))).trans KA.out
 have kM3:=(HX3.out.block _ (block_lt KM2.out) (fun e=>e.elim (fun e=>by have:=KB.out;rw [<- e,KM2.out] at this;simp at this) (fun e=>own_not (hsv ▸ HO2.out) KM2.out (by decide) e))).trans KM2.out
 have kA4:=(hx4.block _ (block_lt kA3) (fun e=>e.elim (fun e=>by have:=KB3.out;rw [<- e,kA3] at this;simp at this) (fun e=>by have:=KG.out;rw [<- e,kA3] at this;simp at this))).trans kA3
 have kM4:=(hx4.block _ (block_lt kM3) (fun e=>e.elim (fun e=>by have:=KB3.out;rw [<- e,kM3] at this;simp at this) (fun e=>by have:=KG.out;rw [<- e,kM3] at this;simp at this))).trans kM3
 have a0:=cell_of_block kA4 0
 have a1:=cell_of_block kA4 1
 have a2:=cell_of_block kA4 2
 have a3:=cell_of_block kA4 3
 have m0:=cell_of_block kM4 0
 have m1:=cell_of_block kM4 1
 have m2:=cell_of_block kM4 2
 have hlA:=block_lt kA4
 have hlM:=block_lt kM4
 have hAsl:(As++[(x,yes)]).length=As.length+1:=by simp
 have hFn:=HF.out.fn
 have HNOW4:Hid (∀ W,Ext (fun _=>False) W4 W->Calls Tryz.prog 259 #[.pointer (some ⟨hb,0,none⟩)] W fun e w'=>e=.returned (.pointer (some ⟨g',(TT.length+1) * 681,none⟩))/\w' = W.drew):=by
  intro W hxw
  have:=now_any (hR4.ext hxw (fun _ _ f=>f)) (by simp) (by simp;omega)
  simp only [List.length_append,List.length_singleton,Nat.add_sub_cancel] at this
  exact this
 have hI4:TInv (F.n+1) F.far F.V (HA (asAt (As++[(x,yes)]))) (As.length+1) X.t:=by
  refine (HG.out.inv.same (fun k hk v hv=>?_)).more (by omega)
  have e:asAt (As++[(x,yes)])=asAt As++[(x.at_,yes)]:=by simp [asAt]
  rw [e,HA.app (by simpa [asAt] using hk)] at hv
  exact hv
 have HTAKE:Hid (∀ W,Ext (fun _=>False) W4 W->Calls Tryz.prog 260 #[.pointer (some ⟨g',(TT.length+1) * 681,none⟩),.agg #[.string x.wd,.int .i64 x.i,.int .i64 x.j,.int .i64 x.b],.bool yes,.agg #[.int .u64 (M3.of As.length).a.toNat,.int .u64 (M3.of As.length).b.toNat,.int .u64 (M3.of As.length).c.toNat]] W fun e wp=>∃ Y ok,e=.returned (.bool ok)/\ThR wp hb g' ⟨c.tv,c.av,c.wv,.slice (some ⟨gs,0,none⟩) (As.length+1) cap',.slice (some ⟨g',0,none⟩) (TT.length+1+1) cap2⟩ TK AK tw (As++[(x,yes)]) (TT++[X]++[Y])/\Ext (fun k=>k=g') W4 wp/\Ar.TPost (F.n+1) F.far F.V (HA (asAt (As++[(x,yes)]))) (As.length+1) X Y ok/\(ok=true->Taken Y.t (x.at_,yes))):=by
  intro W hxw
  obtain ⟨C4,kg4,hT4,hturn⟩:=hR4.tab
  have hlx:(TT++[X]).length=TT.length+1:=by simp
  rw [hlx] at hT4 hturn
  refine (take_any ((hxw.block _ (block_lt kg4) (fun f=>f)).trans kg4) hT4 (n:=TK.length+1) (far:=F.far) (V:=F.V) (H:=HA (asAt (As++[(x,yes)]))) (K:=As.length+1) (by omega) (by have:=HXO.out.2.1;omega) (by have:=HXO.out.2.2;omega) (hFn ▸ hI4) hfar ?_ HXO.out.1 HXB.out ?_).mono ?_
  ·intro k hk
   rw [M3.has_of (by omega)] at hk
   simp at hk
   omega
  ·intro v hv hh
   exact hh As.length (by rw [M3.has_of (by omega)];simp) (x.at_,yes) (by simp [asAt])
  ·rintro e wp ⟨Z,ok,he,hTP,hPP,hRR⟩
   exact ⟨Z,ok,he,hturn wp Z (TabPost.trans (hxw.mono (fun _ _ f=>f.elim)) (SameOut.refl _ _) hTP),(hxw.mono (fun _ _ f=>f.elim)).trans hTP.1,by rw [hFn];exact hPP,hRR⟩
 have HFOL:Hid (∀ W Y,ThR W hb g' ⟨c.tv,c.av,c.wv,.slice (some ⟨gs,0,none⟩) (As.length+1) cap',.slice (some ⟨g',0,none⟩) (TT.length+1+1) cap2⟩ TK AK tw (As++[(x,yes)]) (TT++[X]++[Y])->TInv (F.n+1) F.far F.V (HA (asAt (As++[(x,yes)]))) (As.length+1) Y.t->Calls Tryz.prog 261 #[.pointer (some ⟨hb,0,none⟩)] W fun e w'=>∃ Z ok,e=.returned (.bool ok)/\ThR w' hb g' ⟨c.tv,c.av,c.wv,.slice (some ⟨gs,0,none⟩) (As.length+1) cap',.slice (some ⟨g',0,none⟩) (TT.length+1+1) cap2⟩ TK AK tw (As++[(x,yes)]) (TT++[X]++[Z])/\Ext (fun k=>k=g') W w'/\TLe (F.n+1) Z.t Y.t/\(ok=true->TInv (F.n+1) F.far F.V (HA (asAt (As++[(x,yes)]))) (As.length+1) Z.t/\(∀ y∈asAt (As++[(x,yes)]),Parted Z.t y)/\∀ p∈tw,Mapped F Z.t p)/\(ok=false->Below3 (As.length+1) Z.wrong/\∀ v,F.V v->¬Hs (HA (asAt (As++[(x,yes)]))) Z.wrong v)):=by
  intro W Y hRW hIY
  have:=follow_any hRW HF.out hT (by simp;omega) htw (by simp;omega) (fun y hy=>by
   rcases List.mem_append.1 hy with e | e
   ·exact HOK.out y e
   ·simp at e;subst e;exact HXO.out) (by rw [hAsl];exact hIY) hfar
  rw [hAsl] at this
  exact this
 have HXT:Hid (Ext (fun k=>k=hb\/k=g\/c.sv.ownBlock=some k) w W4):=by
  refine ((HX2.out.mono (fun _ _ f=>f.elim)).trans' HX3.out (fun k _ e=>e.elim .inl (fun e=>.inr (.inr e)))).trans' hx4 (fun k _ e=>e.elim .inl (fun e=>.inr (.inl e)))
 have HGN:Hid (∀ k,k < w.heap.size->k=g'->k=hb\/k=g\/c.sv.ownBlock=some k):=by
  intro k hk e
  have s1:=HX2.out.size
  have s2:=HX3.out.size
  rcases hgn with e2 | e2
  ·exact .inr (.inl (e.trans e2))
  ·omega
 have HGE:Hid (g' = g\/w.heap.size<=g'):=by
  have s1:=HX2.out.size
  have s2:=HX3.out.size
  exact hgn.imp (fun e=>e) (fun e=>by omega)
 have HSE:Hid (∀ k,(Value.slice (some ⟨gs,0,none⟩) (As.length+1) cap').ownBlock=some k->c.sv.ownBlock=some k\/w.heap.size<=k):=by
  intro k hk
  simp [Value.ownBlock] at hk
  subst hk
  have s1:=HX2.out.size
  exact HGS.out.imp (fun e=>e) (fun e=>by omega)
 clear hgn
 have HAF:Hid (∀ (wp:World) (Y:Tab),(ThR wp hb g' ⟨c.tv,c.av,c.wv,.slice (some ⟨gs,0,none⟩) (As.length+1) cap',.slice (some ⟨g',0,none⟩) (TT.length+1+1) cap2⟩ TK AK tw (As++[(x,yes)]) (TT++[X]++[Y])/\Ext (fun k=>k=g') W4 wp/\Ar.TPost (F.n+1) F.far F.V (HA (asAt (As++[(x,yes)]))) (As.length+1) X Y false/\(false=true->Taken Y.t (x.at_,yes)))->AsC w hb g c TK AK tw As TT X F x yes (.returned (.bool false)) wp):=by
  rintro wp Y ⟨f1,f2,f3,f4⟩
  refine ⟨Y,false,g',_,_,rfl,f1,?_,HGE.out,HSE.out,fun e=>by simp at e,fun _=>f3.bad rfl⟩
  exact HXT.out.trans' f2 HGN.out
 have HAT2:Hid (∀ (wp wf:World) (Y Z:Tab) (ok2:Bool),(ThR wp hb g' ⟨c.tv,c.av,c.wv,.slice (some ⟨gs,0,none⟩) (As.length+1) cap',.slice (some ⟨g',0,none⟩) (TT.length+1+1) cap2⟩ TK AK tw (As++[(x,yes)]) (TT++[X]++[Y])/\Ext (fun k=>k=g') W4 wp/\Ar.TPost (F.n+1) F.far F.V (HA (asAt (As++[(x,yes)]))) (As.length+1) X Y true/\(true=true->Taken Y.t (x.at_,yes))) ->
   (ThR wf hb g' ⟨c.tv,c.av,c.wv,.slice (some ⟨gs,0,none⟩) (As.length+1) cap',.slice (some ⟨g',0,none⟩) (TT.length+1+1) cap2⟩ TK AK tw (As++[(x,yes)]) (TT++[X]++[Z])/\Ext (fun k=>k=g') wp wf/\TLe (F.n+1) Z.t Y.t/\(ok2=true->TInv (F.n+1) F.far F.V (HA (asAt (As++[(x,yes)]))) (As.length+1) Z.t/\(∀ y∈asAt (As++[(x,yes)]),Parted Z.t y)/\∀ p∈tw,Mapped F Z.t p)/\(ok2=false->Below3 (As.length+1) Z.wrong/\∀ v,F.V v->¬Hs (HA (asAt (As++[(x,yes)]))) Z.wrong v)) ->
   ∀ e,e=Ending.returned (.bool ok2)->AsC w hb g c TK AK tw As TT X F x yes e wf):=by
  rintro wp wf Y Z ok2 ⟨f1,f2,f3,f4⟩ ⟨g1,g2,g3,g4,g5⟩ e rfl
  refine ⟨Z,ok2,g',_,_,rfl,g1,?_,HGE.out,HSE.out,fun e=>?_,g5⟩
  ·exact (HXT.out.trans' f2 HGN.out).trans' g2 HGN.out
  ·obtain ⟨p1,p2,p3⟩:=g4 e
   refine ⟨⟨by rw [hAsl];exact p1,fun y hy=>?_,HG.out.nums.le (g3.trans f3.le)⟩,p2,p3⟩
   have e1:asAt (As++[(x,yes)])=asAt As++[(x.at_,yes)]:=by simp [asAt]
   rw [e1] at hy
   rcases List.mem_append.1 hy with e2 | e2
   ·obtain ⟨z,hz,rfl⟩:=List.mem_map.1 e2
    have hzo:=HOK.out z hz
    exact (HG.out.tk _ e2).le (g3.trans f3.le) (by show z.1.i < F.n+1;omega) (by show z.1.j < F.n+1;omega)
   ·simp at e2
    subst e2
    have hxo:=HXO.out
    exact (f4 rfl).le g3 (by show x.i < F.n+1;omega) (by show x.j < F.n+1;omega)
 have HR4:=hide hR4
 have HX4:=hide hx4
 clear hR4 hx4 kA3 kM3 kA4 kM4 hI4 hAsl
 obtain ⟨m',hm'⟩:∃ m',(TT.length+1) * 681=m':=⟨_,rfl⟩
 rw [hm'] at HNOW4 HTAKE
 clear hm'
 go_wp2_with fail
 go_region_law (first
  | (go_simp;go_wp2_with (go_at_call 259;refine (HNOW4.out _ (by first | exact Ext.refl _ _ | exact (Ext.refl _ _).drew)).mono ?_;rintro e wn ⟨rfl,rfl⟩;have HC:=HNOW4);clear HC)
  | (go_simp;go_wp2_with (go_at_call 261;refine (HFOL.out _ _ HFI2.out.1 (HFI2.out.2.2.1.inv rfl)).mono ?_;rintro e wf ⟨Z,ok2,rfl,hfin⟩;have HFI3:=hide hfin;clear hfin;have HC:=HNOW4);clear HC)
  | (go_simp;go_wp2_with (go_at_call 260;refine (HTAKE.out _ (by first | exact (Ext.refl _ _).drew | exact (Ext.refl _ _).drew.drew)).mono ?_;rintro e wp ⟨Y,ok,rfl,hfin⟩;have HFIN:=hide hfin;clear hfin);have HFI2:=HFIN;clear HFIN;rcases ok with _ | _;focus (refine wpAny_ready (rs:=[6]) (by kernel_rfl) (by simp) ?_;refine AllReady.cons rfl (fun K5 hK5=>?_) AllReady.nil;go_simp;refine hK5 _ _ ?_;clear hK5 K5;refine wpAny_ready (rs:=[7]) (by kernel_rfl) (by simp) ?_;refine AllReady.cons rfl (fun K5 hK5=>?_) AllReady.nil;go_simp;refine hK5 _ _ ?_;clear hK5 K5;refine wpAny_ready (rs:=[8]) (by kernel_rfl) (by simp) ?_;refine AllReady.cons rfl (fun K5 hK5=>?_) AllReady.nil;go_simp;refine hK5 _ _ ?_;clear hK5 K5;refine wpAny_ready (rs:=[9]) (by kernel_rfl) (by simp) ?_;refine AllReady.cons rfl (fun K5 hK5=>?_) AllReady.nil;go_simp;refine hK5 _ _ ?_;clear hK5 K5;refine wpAny_ready (rs:=[10]) (by kernel_rfl) (by simp) ?_;refine AllReady.cons rfl (fun K5 hK5=>?_) AllReady.nil;go_simp;refine hK5 _ _ ?_;clear hK5 K5;refine wpAny_done (by kernel_rfl) ?_ _;go_wp2_with fail;go_ret;exact HAF.out _ _ HFI2.out)))
 all_goals
  go_wp2_with fail
  go_ret
  refine HAT2.out _ _ _ _ ok2 HFI2.out HFI3.out _ ?_
  cases ok2 <;> rfl
end
end Go.Proofs.YtegbdaffhpiacaaGreatDoor
