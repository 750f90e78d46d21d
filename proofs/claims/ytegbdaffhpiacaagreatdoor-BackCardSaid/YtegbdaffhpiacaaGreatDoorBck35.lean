/- A search in memory: exclude: a round of the range over the marks. -/
import Derived.Test.YtegbdaffhpiacaaGreatDoorBck32
import Derived.Test.YtegbdaffhpiacaaGreatDoorBck34
namespace Go.Proofs.YtegbdaffhpiacaaGreatDoor
open Go.RowKit Ar
attribute [local go_sem] Oper.semAt_some
def rangeBody?:Code->Option Code
 | .seq a b=>(rangeBody? a).orElse (fun _=>rangeBody? b)
 | .block _ c=>rangeBody? c
 | .scope c=>rangeBody? c
 | .rangeFunc _ _ _ b=>some b
 | _=>none
def qx3 (ops:Array Oper):Bool:=ops.toList.all (fun o=>match o.op with
 | .defer _=>false
 | _=>true)
theorem qr0 {ops:Array Oper} (h:qx3 ops=true) {i:Nat} {o:Oper} (ho:ops[i]?=some o):∀ c,o.op ≠ .defer c:=by
 intro c e
 have hm:o∈ops.toList:=by rw [<- Array.getElem?_toList] at ho;exact List.mem_of_getElem? ho
 have:=List.all_eq_true.1 h o hm
 rw [e] at this
 simp at this
theorem zt5 {F:Fence} {n:Nat} {P:Program} {md:Region.Mode} {ops:Array Oper} {Q:Exit->Act->World->Prop} (l:Nat) (hF:F.round=none) (hs:qx3 ops=true) :
  ∀ zt7 listed a w,wpAnyIn F n P md ops Q zt7 listed a w->wpAnyIn (F.inRound l) n P md ops Q zt7 listed a w
 | 0,_,_,_,h=>h
 | zt7+1,listed,a,w,h=>by
  refine ⟨h.1,fun i hi=>?_⟩
  have h1:=h.2 i hi
  unfold wpOpIn at h1 ⊢
  cases ho:ops[i]? with
  | none =>
   rw [ho] at h1
   exact zt5 l hF hs zt7 _ _ _ h1
  | some o =>
   rw [ho] at h1
   simp only at h1 ⊢
   split
   ·rename_i hw
    rw [if_pos hw] at h1
    have h2:=Oper.wpIn_mono (fun a w hk=>zt5 l hF hs zt7 _ a w hk) h1
    refine ⟨h2.1,?_⟩
    have h3:=h2.2
    rw [hF] at h3
    show o.uponIn (F.inRound l) n P a _ Q ((o.semAt (some l) a.eval).run P w)
    rw [Oper.semAt_eq _ _ _ (qr0 hs ho)] at h3 ⊢
    generalize (execOp a.eval o).run P w=r at h3 ⊢
    cases r with
    | ok x w'=>cases x <;> exact h3
    | halt x w'=>cases x <;> exact h3
   ·rename_i hw
    rw [if_neg hw] at h1
    exact ⟨h1.1,zt5 l hF hs zt7 _ _ _ h1.2⟩
section
variable {B:Nat} {W:World} {sb hb g:Nat} {c:ThV} {TK:List Z0} {AK:List PA} {tw:List (Nat × Nat)} {tv lv:Value} {tr:List St} {As:List (PA × Bool)} {ls:List (List (BitVec 64))} {TT:List Y5}
set_option maxRecDepth 100000 in
set_option maxHeartbeats 4000000 in
theorem qS6 {C body:Code} (hC:Tryz.f136.body=some C) (hbo:rangeBody? C=some body) {l x b0 b1 b nb cp:Nat} {t:St} {l':List (BitVec 64)} {Q:Act->World->Prop}
  (h:SrR B W sb hb g c TK AK tw tv lv tr As ls TT) (hA:AK.length<=16) (ht:tr[x]?=some t) (htq:t.q < AK.length) (k0:W.heap[b0]?=some (.cells #[.pointer (some ⟨sb,0,none⟩)] 183)) (k1:W.heap[b1]?=some (.cells #[.slice (some ⟨b,0,none⟩) nb cp] 136)) (e2:WS W b (.slice (some ⟨b,0,none⟩) nb cp) l') (e4:l'.length=2 ^ (AK.length - 6))
  (hQ:∀ (a:Act) (wc:World) (b3 n3 c3:Nat),q9 (fun _=>False) W wc->W.heap.size<=b3/\WS wc b3 (.slice (some ⟨b3,0,none⟩) n3 c3) (W8 l' (X1 (2 ^ (AK.length - 6)) t.q t.yes))->Q a (wc.setCell ⟨b1,0,none⟩ (.slice (some ⟨b3,0,none⟩) n3 c3)))
  (u0 u1 u3 u4 u7 u8 u9 u10 u11 u12 u13 u14 u15 u16 u17 u18 u19 u20 u21 u22 u23 u24 u25 u26 u27 u28 u29 u30 u31 u32 u33 u34 u35 u36 u37 u38 u39 u40 u41 u42 u43 u44 u45 u46 u47 u48 u49 u50 u51 u52 u53 u54 u55 u56 u57 u58 u59 u60 u61 u62 u63 u64 u65 u66 u67 u68 u69 u70 u71 u72 u73:Value) :
  body.wpIn (Fence.wide.inRound l) 3 Tryz.prog (qS2 Q) { tmps:=#[u0,u1,.pointer (some ⟨b0,0,none⟩),u3,u4,.pointer (some ⟨b1,0,none⟩),.int .i64 (x:Int),u7,u8,u9,u10,u11,u12,u13,u14,u15,u16,u17,u18,u19,u20,u21,u22,u23,u24,u25,u26,u27,u28,u29,u30,u31,u32,u33,u34,u35,u36,u37,u38,u39,u40,u41,u42,u43,u44,u45,u46,u47,u48,u49,u50,u51,u52,u53,u54,u55,u56,u57,u58,u59,u60,u61,u62,u63,u64,u65,u66,u67,u68,u69,u70,u71,u72,u73],defers:=[] } W:=by
 obtain rfl:C=_:=Option.some.inj (hC.symm.trans (rfl:Tryz.f136.body=some _))
 obtain rfl:body=_:=Option.some.inj (hbo.symm.trans (rfl:rangeBody? _=some _))
 have hxlt:=(List.getElem?_eq_some_iff.1 ht).1
 obtain ⟨gt,cap,htv,hgt,y0,y1,y2,y3,y4,y5⟩:=h.step ht
 have kbw:=h.blk
 rw [htv] at kbw
 have z2:=z6 kbw 2
 have z0:=z6 k0 0
 have z1:=z6 k1 0
 have hk1024:2 ^ (AK.length - 6)<=1024:=Nat.pow_le_pow_right (n:=2) (by decide) (by omega:AK.length - 6<=10)
 have HWH:Hid (∀ W',q9 (fun _=>False) W W'->Calls Tryz.prog 178 #[.pointer (some ⟨sb,0,none⟩),.agg #[.int .i64 t.q,.bool t.yes,.bool t.turned,.int .u64 t.blame.a.toNat,.int .u64 t.blame.b.toNat,.int .u64 t.blame.c.toNat]] W' fun e w'=>∃ b v,e=.returned v/\q9 (fun _=>False) W w'/\(q9 (fun _=>False) W' w'/\WS w' b v (X1 (2 ^ (AK.length - 6)) t.q t.yes))) :=
  fun W' hx=>(zE6 (h.ext hx) hA t (by omega)).mono (fun e w' ⟨b,v,h1,h2,h3,h4⟩=>⟨b,v,h1,hx.trans h3,h3,h4⟩)
 have HAND:Hid (∀ (W':World) (b2:Nat) (v2:Value),q9 (fun _=>False) W W'->WS W' b2 v2 (X1 (2 ^ (AK.length - 6)) t.q t.yes)->Calls Tryz.prog 91 #[.slice (some ⟨b,0,none⟩) nb cp,v2] W' fun e w'=>∃ b3 n3 c3,e=.returned (.slice (some ⟨b3,0,none⟩) n3 c3)/\q9 (fun _=>False) W w'/\(W.heap.size<=b3/\WS w' b3 (.slice (some ⟨b3,0,none⟩) n3 c3) (W8 l' (X1 (2 ^ (AK.length - 6)) t.q t.yes)))):=by
  intro W' b2 v2 hx h2
  refine (zl2 (e2.ext hx (fun f=>f)) h2 (by rw [O7,e4]) (by omega)).mono ?_
  rintro e w' ⟨b3,v3,h4,h5,h6,h7⟩
  obtain ⟨cc,cur,q1,_⟩:=h7.shape
  subst q1
  exact ⟨b3,_,cc,h4,hx.trans h6,Nat.le_trans hx.size h5,h7⟩
 have KBW:=q8 k0
 have KSW:=q8 k1
 have HQ:=q8 hQ
 have hd:q9 (fun _=>False) W W.drew:=(q9.refl _ W).drew
 have hbl3:=z8 kbw
 clear h k0 k1 e2 e4 ht htq kbw hQ hk1024 htv hA
 gi_wp2
 refine wpIn_region_any (by kernel_rfl) ?_
 change wpAnyIn _ _ _ _ _ _ _ _ _ (World.drew _)
 refine zt5 l rfl (by kernel_rfl) _ _ _ _ ?_
 refine wpAnyIn_take (i:=6) (v:=.int .i64 (x:Int)) rfl rfl (by kernel_rfl) (by kernel_rfl) (by kernel_rfl) (fun _ _ _ h=>h) ⟨Or.inl ⟨by rfl,by intro w;go_simp⟩,fun _=>rfl⟩ ?_
 refine wpAnyIn_ready (rs:=[0,1,2]) (by kernel_rfl) (by simp) ?_
 refine AllReadyIn.cons rfl (fun K hK=>?_) ?_
 ·go_simp
  refine hK _ _ ?_
  clear hK K
  refine wpAnyIn_ready (rs:=[1,2]) (by kernel_rfl) (by simp) ?_
  refine AllReadyIn.cons rfl (fun K hK=>?_) ?_
  ·go_simp
   refine hK _ _ ?_
   clear hK K
   refine wpAnyIn_ready (rs:=[2]) (by kernel_rfl) (by simp) ?_
   refine AllReadyIn.cons rfl (fun K hK=>?_) ?_
   ·go_simp
    refine hK _ _ ?_
    clear hK K
    refine wpAnyIn_take (i:=3) (v:=.pointer (some ⟨sb,0,none⟩)) rfl rfl (by kernel_rfl) (by kernel_rfl) (by kernel_rfl) (fun _ _ _ h=>h) ⟨Or.inl ⟨by rfl,by intro w;go_simp⟩,fun _=>rfl⟩ ?_
    refine wpAnyIn_take (i:=4) (v:=.pointer (some ⟨sb,2,none⟩)) rfl rfl (by kernel_rfl) (by kernel_rfl) (by kernel_rfl) (fun _ _ _ h=>h) ⟨Or.inl ⟨by rfl,by intro w;go_simp⟩,fun _=>rfl⟩ ?_
    refine wpAnyIn_ready (rs:=[5]) (by kernel_rfl) (by simp) ?_
    refine AllReadyIn.cons rfl (fun K hK=>?_) ?_
    ·go_simp
     refine hK _ _ ?_
     clear hK K
     refine wpAnyIn_take (i:=7) (v:=.pointer (some ⟨gt,x * 6,none⟩)) rfl rfl (by kernel_rfl) (by kernel_rfl) (by kernel_rfl) (fun _ _ _ h=>h) ⟨Or.inl ⟨by rfl,by intro w;go_simp⟩,fun _=>rfl⟩ ?_
     refine wpAnyIn_ready (rs:=[8]) (by kernel_rfl) (by simp) ?_
     refine AllReadyIn.cons rfl (fun K hK=>?_) ?_
     ·go_simp
      refine hK _ _ ?_
      clear hK K
      refine wpAnyIn_ready (rs:=[9]) (by kernel_rfl) (by simp) ?_
      refine AllReadyIn.cons rfl (fun K hK=>?_) ?_
      ·go_simp
       gi_wp2_with (refine ⟨trivial,?_⟩;gi_at_call 178;refine (callsIn_wide.2 (HWH.out _ hd)).mono ?_;rintro e wa ⟨b2,v2,rfl,hxa,hxa2,hwa⟩;have HWA:=q8 hwa;clear hwa hxa2;have kbwa:=(hxa.block _ (z8 KBW.out) (fun f=>f)).trans KBW.out;have q0wa:=z6 kbwa 0;have kswa:=(hxa.block _ (z8 KSW.out) (fun f=>f)).trans KSW.out;have q1wa:=z6 kswa 0;have qfwa:=Q0 kswa 0;clear kbwa kswa)
       refine wpAnyIn_ready (rs:=[10]) (by kernel_rfl) (by simp) ?_
       refine AllReadyIn.cons rfl (fun K hK=>?_) ?_
       ·go_simp
        gi_wp2_with (refine ⟨trivial,?_⟩;gi_at_call 91;refine (callsIn_wide.2 (HAND.out _ _ _ hxa HWA.out)).mono ?_;rintro e wc ⟨b3,n3,c3',rfl,hxc,hwc⟩;have HWC:=q8 hwc;clear hwc;have kbwc:=(hxc.block _ (z8 KBW.out) (fun f=>f)).trans KBW.out;have q0wc:=z6 kbwc 0;have kswc:=(hxc.block _ (z8 KSW.out) (fun f=>f)).trans KSW.out;have q1wc:=z6 kswc 0;have qfwc:=Q0 kswc 0;clear kbwc kswc)
        refine wpAnyIn_ready (rs:=[11]) (by kernel_rfl) (by simp) ?_
        refine AllReadyIn.cons rfl (fun K hK=>?_) ?_
        ·go_simp
         refine hK _ _ ?_
         clear hK K
         refine wpAnyIn_done (by kernel_rfl) ?_ _
         exact HQ.out _ _ _ _ _ hxc HWC.out
        exact AllReadyIn.nil
       exact AllReadyIn.nil
      exact AllReadyIn.nil
     exact AllReadyIn.nil
    exact AllReadyIn.nil
   exact AllReadyIn.nil
  refine AllReadyIn.cons rfl (fun K hK=>?_) ?_
  ·go_simp
   refine hK _ _ ?_
   clear hK K
   refine wpAnyIn_take (i:=3) (v:=.pointer (some ⟨sb,0,none⟩)) rfl rfl (by kernel_rfl) (by kernel_rfl) (by kernel_rfl) (fun _ _ _ h=>h) ⟨Or.inl ⟨by rfl,by intro w;go_simp⟩,fun _=>rfl⟩ ?_
   refine wpAnyIn_take (i:=4) (v:=.pointer (some ⟨sb,2,none⟩)) rfl rfl (by kernel_rfl) (by kernel_rfl) (by kernel_rfl) (fun _ _ _ h=>h) ⟨Or.inl ⟨by rfl,by intro w;go_simp⟩,fun _=>rfl⟩ ?_
   refine wpAnyIn_ready (rs:=[1,5]) (by kernel_rfl) (by simp) ?_
   refine AllReadyIn.cons rfl (fun K hK=>?_) ?_
   ·go_simp
    refine hK _ _ ?_
    clear hK K
    refine wpAnyIn_ready (rs:=[5]) (by kernel_rfl) (by simp) ?_
    refine AllReadyIn.cons rfl (fun K hK=>?_) ?_
    ·go_simp
     refine hK _ _ ?_
     clear hK K
     refine wpAnyIn_take (i:=7) (v:=.pointer (some ⟨gt,x * 6,none⟩)) rfl rfl (by kernel_rfl) (by kernel_rfl) (by kernel_rfl) (fun _ _ _ h=>h) ⟨Or.inl ⟨by rfl,by intro w;go_simp⟩,fun _=>rfl⟩ ?_
     refine wpAnyIn_ready (rs:=[8]) (by kernel_rfl) (by simp) ?_
     refine AllReadyIn.cons rfl (fun K hK=>?_) ?_
     ·go_simp
      refine hK _ _ ?_
      clear hK K
      refine wpAnyIn_ready (rs:=[9]) (by kernel_rfl) (by simp) ?_
      refine AllReadyIn.cons rfl (fun K hK=>?_) ?_
      ·go_simp
       gi_wp2_with (refine ⟨trivial,?_⟩;gi_at_call 178;refine (callsIn_wide.2 (HWH.out _ hd)).mono ?_;rintro e wa ⟨b2,v2,rfl,hxa,hxa2,hwa⟩;have HWA:=q8 hwa;clear hwa hxa2;have kbwa:=(hxa.block _ (z8 KBW.out) (fun f=>f)).trans KBW.out;have q0wa:=z6 kbwa 0;have kswa:=(hxa.block _ (z8 KSW.out) (fun f=>f)).trans KSW.out;have q1wa:=z6 kswa 0;have qfwa:=Q0 kswa 0;clear kbwa kswa)
       refine wpAnyIn_ready (rs:=[10]) (by kernel_rfl) (by simp) ?_
       refine AllReadyIn.cons rfl (fun K hK=>?_) ?_
       ·go_simp
        gi_wp2_with (refine ⟨trivial,?_⟩;gi_at_call 91;refine (callsIn_wide.2 (HAND.out _ _ _ hxa HWA.out)).mono ?_;rintro e wc ⟨b3,n3,c3',rfl,hxc,hwc⟩;have HWC:=q8 hwc;clear hwc;have kbwc:=(hxc.block _ (z8 KBW.out) (fun f=>f)).trans KBW.out;have q0wc:=z6 kbwc 0;have kswc:=(hxc.block _ (z8 KSW.out) (fun f=>f)).trans KSW.out;have q1wc:=z6 kswc 0;have qfwc:=Q0 kswc 0;clear kbwc kswc)
        refine wpAnyIn_ready (rs:=[11]) (by kernel_rfl) (by simp) ?_
        refine AllReadyIn.cons rfl (fun K hK=>?_) ?_
        ·go_simp
         refine hK _ _ ?_
         clear hK K
         refine wpAnyIn_done (by kernel_rfl) ?_ _
         exact HQ.out _ _ _ _ _ hxc HWC.out
        exact AllReadyIn.nil
       exact AllReadyIn.nil
      exact AllReadyIn.nil
     exact AllReadyIn.nil
    exact AllReadyIn.nil
   refine AllReadyIn.cons rfl (fun K hK=>?_) ?_
   ·go_simp
    refine hK _ _ ?_
    clear hK K
    refine wpAnyIn_take (i:=7) (v:=.pointer (some ⟨gt,x * 6,none⟩)) rfl rfl (by kernel_rfl) (by kernel_rfl) (by kernel_rfl) (fun _ _ _ h=>h) ⟨Or.inl ⟨by rfl,by intro w;go_simp⟩,fun _=>rfl⟩ ?_
    refine wpAnyIn_ready (rs:=[1,8]) (by kernel_rfl) (by simp) ?_
    refine AllReadyIn.cons rfl (fun K hK=>?_) ?_
    ·go_simp
     refine hK _ _ ?_
     clear hK K
     refine wpAnyIn_ready (rs:=[8]) (by kernel_rfl) (by simp) ?_
     refine AllReadyIn.cons rfl (fun K hK=>?_) ?_
     ·go_simp
      refine hK _ _ ?_
      clear hK K
      refine wpAnyIn_ready (rs:=[9]) (by kernel_rfl) (by simp) ?_
      refine AllReadyIn.cons rfl (fun K hK=>?_) ?_
      ·go_simp
       gi_wp2_with (refine ⟨trivial,?_⟩;gi_at_call 178;refine (callsIn_wide.2 (HWH.out _ hd)).mono ?_;rintro e wa ⟨b2,v2,rfl,hxa,hxa2,hwa⟩;have HWA:=q8 hwa;clear hwa hxa2;have kbwa:=(hxa.block _ (z8 KBW.out) (fun f=>f)).trans KBW.out;have q0wa:=z6 kbwa 0;have kswa:=(hxa.block _ (z8 KSW.out) (fun f=>f)).trans KSW.out;have q1wa:=z6 kswa 0;have qfwa:=Q0 kswa 0;clear kbwa kswa)
       refine wpAnyIn_ready (rs:=[10]) (by kernel_rfl) (by simp) ?_
       refine AllReadyIn.cons rfl (fun K hK=>?_) ?_
       ·go_simp
        gi_wp2_with (refine ⟨trivial,?_⟩;gi_at_call 91;refine (callsIn_wide.2 (HAND.out _ _ _ hxa HWA.out)).mono ?_;rintro e wc ⟨b3,n3,c3',rfl,hxc,hwc⟩;have HWC:=q8 hwc;clear hwc;have kbwc:=(hxc.block _ (z8 KBW.out) (fun f=>f)).trans KBW.out;have q0wc:=z6 kbwc 0;have kswc:=(hxc.block _ (z8 KSW.out) (fun f=>f)).trans KSW.out;have q1wc:=z6 kswc 0;have qfwc:=Q0 kswc 0;clear kbwc kswc)
        refine wpAnyIn_ready (rs:=[11]) (by kernel_rfl) (by simp) ?_
        refine AllReadyIn.cons rfl (fun K hK=>?_) ?_
        ·go_simp
         refine hK _ _ ?_
         clear hK K
         refine wpAnyIn_done (by kernel_rfl) ?_ _
         exact HQ.out _ _ _ _ _ hxc HWC.out
        exact AllReadyIn.nil
       exact AllReadyIn.nil
      exact AllReadyIn.nil
     exact AllReadyIn.nil
    refine AllReadyIn.cons rfl (fun K hK=>?_) ?_
    ·go_simp
     refine hK _ _ ?_
     clear hK K
     refine wpAnyIn_ready (rs:=[1]) (by kernel_rfl) (by simp) ?_
     refine AllReadyIn.cons rfl (fun K hK=>?_) ?_
     ·go_simp
      refine hK _ _ ?_
      clear hK K
      refine wpAnyIn_ready (rs:=[9]) (by kernel_rfl) (by simp) ?_
      refine AllReadyIn.cons rfl (fun K hK=>?_) ?_
      ·go_simp
       gi_wp2_with (refine ⟨trivial,?_⟩;gi_at_call 178;refine (callsIn_wide.2 (HWH.out _ hd)).mono ?_;rintro e wa ⟨b2,v2,rfl,hxa,hxa2,hwa⟩;have HWA:=q8 hwa;clear hwa hxa2;have kbwa:=(hxa.block _ (z8 KBW.out) (fun f=>f)).trans KBW.out;have q0wa:=z6 kbwa 0;have kswa:=(hxa.block _ (z8 KSW.out) (fun f=>f)).trans KSW.out;have q1wa:=z6 kswa 0;have qfwa:=Q0 kswa 0;clear kbwa kswa)
       refine wpAnyIn_ready (rs:=[10]) (by kernel_rfl) (by simp) ?_
       refine AllReadyIn.cons rfl (fun K hK=>?_) ?_
       ·go_simp
        gi_wp2_with (refine ⟨trivial,?_⟩;gi_at_call 91;refine (callsIn_wide.2 (HAND.out _ _ _ hxa HWA.out)).mono ?_;rintro e wc ⟨b3,n3,c3',rfl,hxc,hwc⟩;have HWC:=q8 hwc;clear hwc;have kbwc:=(hxc.block _ (z8 KBW.out) (fun f=>f)).trans KBW.out;have q0wc:=z6 kbwc 0;have kswc:=(hxc.block _ (z8 KSW.out) (fun f=>f)).trans KSW.out;have q1wc:=z6 kswc 0;have qfwc:=Q0 kswc 0;clear kbwc kswc)
        refine wpAnyIn_ready (rs:=[11]) (by kernel_rfl) (by simp) ?_
        refine AllReadyIn.cons rfl (fun K hK=>?_) ?_
        ·go_simp
         refine hK _ _ ?_
         clear hK K
         refine wpAnyIn_done (by kernel_rfl) ?_ _
         exact HQ.out _ _ _ _ _ hxc HWC.out
        exact AllReadyIn.nil
       exact AllReadyIn.nil
      exact AllReadyIn.nil
     exact AllReadyIn.nil
    exact AllReadyIn.nil
   exact AllReadyIn.nil
  exact AllReadyIn.nil
 refine AllReadyIn.cons rfl (fun K hK=>?_) ?_
 ·go_simp
  refine hK _ _ ?_
  clear hK K
  refine wpAnyIn_ready (rs:=[0,2]) (by kernel_rfl) (by simp) ?_
  refine AllReadyIn.cons rfl (fun K hK=>?_) ?_
  ·go_simp
   refine hK _ _ ?_
   clear hK K
   refine wpAnyIn_ready (rs:=[2]) (by kernel_rfl) (by simp) ?_
   refine AllReadyIn.cons rfl (fun K hK=>?_) ?_
   ·go_simp
    refine hK _ _ ?_
    clear hK K
    refine wpAnyIn_take (i:=3) (v:=.pointer (some ⟨sb,0,none⟩)) rfl rfl (by kernel_rfl) (by kernel_rfl) (by kernel_rfl) (fun _ _ _ h=>h) ⟨Or.inl ⟨by rfl,by intro w;go_simp⟩,fun _=>rfl⟩ ?_
    refine wpAnyIn_take (i:=4) (v:=.pointer (some ⟨sb,2,none⟩)) rfl rfl (by kernel_rfl) (by kernel_rfl) (by kernel_rfl) (fun _ _ _ h=>h) ⟨Or.inl ⟨by rfl,by intro w;go_simp⟩,fun _=>rfl⟩ ?_
    refine wpAnyIn_ready (rs:=[5]) (by kernel_rfl) (by simp) ?_
    refine AllReadyIn.cons rfl (fun K hK=>?_) ?_
    ·go_simp
     refine hK _ _ ?_
     clear hK K
     refine wpAnyIn_take (i:=7) (v:=.pointer (some ⟨gt,x * 6,none⟩)) rfl rfl (by kernel_rfl) (by kernel_rfl) (by kernel_rfl) (fun _ _ _ h=>h) ⟨Or.inl ⟨by rfl,by intro w;go_simp⟩,fun _=>rfl⟩ ?_
     refine wpAnyIn_ready (rs:=[8]) (by kernel_rfl) (by simp) ?_
     refine AllReadyIn.cons rfl (fun K hK=>?_) ?_
     ·go_simp
      refine hK _ _ ?_
      clear hK K
      refine wpAnyIn_ready (rs:=[9]) (by kernel_rfl) (by simp) ?_
      refine AllReadyIn.cons rfl (fun K hK=>?_) ?_
      ·go_simp
       gi_wp2_with (refine ⟨trivial,?_⟩;gi_at_call 178;refine (callsIn_wide.2 (HWH.out _ hd)).mono ?_;rintro e wa ⟨b2,v2,rfl,hxa,hxa2,hwa⟩;have HWA:=q8 hwa;clear hwa hxa2;have kbwa:=(hxa.block _ (z8 KBW.out) (fun f=>f)).trans KBW.out;have q0wa:=z6 kbwa 0;have kswa:=(hxa.block _ (z8 KSW.out) (fun f=>f)).trans KSW.out;have q1wa:=z6 kswa 0;have qfwa:=Q0 kswa 0;clear kbwa kswa)
       refine wpAnyIn_ready (rs:=[10]) (by kernel_rfl) (by simp) ?_
       refine AllReadyIn.cons rfl (fun K hK=>?_) ?_
       ·go_simp
        gi_wp2_with (refine ⟨trivial,?_⟩;gi_at_call 91;refine (callsIn_wide.2 (HAND.out _ _ _ hxa HWA.out)).mono ?_;rintro e wc ⟨b3,n3,c3',rfl,hxc,hwc⟩;have HWC:=q8 hwc;clear hwc;have kbwc:=(hxc.block _ (z8 KBW.out) (fun f=>f)).trans KBW.out;have q0wc:=z6 kbwc 0;have kswc:=(hxc.block _ (z8 KSW.out) (fun f=>f)).trans KSW.out;have q1wc:=z6 kswc 0;have qfwc:=Q0 kswc 0;clear kbwc kswc)
        refine wpAnyIn_ready (rs:=[11]) (by kernel_rfl) (by simp) ?_
        refine AllReadyIn.cons rfl (fun K hK=>?_) ?_
        ·go_simp
         refine hK _ _ ?_
         clear hK K
         refine wpAnyIn_done (by kernel_rfl) ?_ _
         exact HQ.out _ _ _ _ _ hxc HWC.out
        exact AllReadyIn.nil
       exact AllReadyIn.nil
      exact AllReadyIn.nil
     exact AllReadyIn.nil
    exact AllReadyIn.nil
   exact AllReadyIn.nil
  refine AllReadyIn.cons rfl (fun K hK=>?_) ?_
  ·go_simp
   refine hK _ _ ?_
   clear hK K
   refine wpAnyIn_take (i:=3) (v:=.pointer (some ⟨sb,0,none⟩)) rfl rfl (by kernel_rfl) (by kernel_rfl) (by kernel_rfl) (fun _ _ _ h=>h) ⟨Or.inl ⟨by rfl,by intro w;go_simp⟩,fun _=>rfl⟩ ?_
   refine wpAnyIn_take (i:=4) (v:=.pointer (some ⟨sb,2,none⟩)) rfl rfl (by kernel_rfl) (by kernel_rfl) (by kernel_rfl) (fun _ _ _ h=>h) ⟨Or.inl ⟨by rfl,by intro w;go_simp⟩,fun _=>rfl⟩ ?_
   refine wpAnyIn_ready (rs:=[0,5]) (by kernel_rfl) (by simp) ?_
   refine AllReadyIn.cons rfl (fun K hK=>?_) ?_
   ·go_simp
    refine hK _ _ ?_
    clear hK K
    refine wpAnyIn_ready (rs:=[5]) (by kernel_rfl) (by simp) ?_
    refine AllReadyIn.cons rfl (fun K hK=>?_) ?_
    ·go_simp
     refine hK _ _ ?_
     clear hK K
     refine wpAnyIn_take (i:=7) (v:=.pointer (some ⟨gt,x * 6,none⟩)) rfl rfl (by kernel_rfl) (by kernel_rfl) (by kernel_rfl) (fun _ _ _ h=>h) ⟨Or.inl ⟨by rfl,by intro w;go_simp⟩,fun _=>rfl⟩ ?_
     refine wpAnyIn_ready (rs:=[8]) (by kernel_rfl) (by simp) ?_
     refine AllReadyIn.cons rfl (fun K hK=>?_) ?_
     ·go_simp
      refine hK _ _ ?_
      clear hK K
      refine wpAnyIn_ready (rs:=[9]) (by kernel_rfl) (by simp) ?_
      refine AllReadyIn.cons rfl (fun K hK=>?_) ?_
      ·go_simp
       gi_wp2_with (refine ⟨trivial,?_⟩;gi_at_call 178;refine (callsIn_wide.2 (HWH.out _ hd)).mono ?_;rintro e wa ⟨b2,v2,rfl,hxa,hxa2,hwa⟩;have HWA:=q8 hwa;clear hwa hxa2;have kbwa:=(hxa.block _ (z8 KBW.out) (fun f=>f)).trans KBW.out;have q0wa:=z6 kbwa 0;have kswa:=(hxa.block _ (z8 KSW.out) (fun f=>f)).trans KSW.out;have q1wa:=z6 kswa 0;have qfwa:=Q0 kswa 0;clear kbwa kswa)
       refine wpAnyIn_ready (rs:=[10]) (by kernel_rfl) (by simp) ?_
       refine AllReadyIn.cons rfl (fun K hK=>?_) ?_
       ·go_simp
        gi_wp2_with (refine ⟨trivial,?_⟩;gi_at_call 91;refine (callsIn_wide.2 (HAND.out _ _ _ hxa HWA.out)).mono ?_;rintro e wc ⟨b3,n3,c3',rfl,hxc,hwc⟩;have HWC:=q8 hwc;clear hwc;have kbwc:=(hxc.block _ (z8 KBW.out) (fun f=>f)).trans KBW.out;have q0wc:=z6 kbwc 0;have kswc:=(hxc.block _ (z8 KSW.out) (fun f=>f)).trans KSW.out;have q1wc:=z6 kswc 0;have qfwc:=Q0 kswc 0;clear kbwc kswc)
        refine wpAnyIn_ready (rs:=[11]) (by kernel_rfl) (by simp) ?_
        refine AllReadyIn.cons rfl (fun K hK=>?_) ?_
        ·go_simp
         refine hK _ _ ?_
         clear hK K
         refine wpAnyIn_done (by kernel_rfl) ?_ _
         exact HQ.out _ _ _ _ _ hxc HWC.out
        exact AllReadyIn.nil
       exact AllReadyIn.nil
      exact AllReadyIn.nil
     exact AllReadyIn.nil
    exact AllReadyIn.nil
   refine AllReadyIn.cons rfl (fun K hK=>?_) ?_
   ·go_simp
    refine hK _ _ ?_
    clear hK K
    refine wpAnyIn_take (i:=7) (v:=.pointer (some ⟨gt,x * 6,none⟩)) rfl rfl (by kernel_rfl) (by kernel_rfl) (by kernel_rfl) (fun _ _ _ h=>h) ⟨Or.inl ⟨by rfl,by intro w;go_simp⟩,fun _=>rfl⟩ ?_
    refine wpAnyIn_ready (rs:=[0,8]) (by kernel_rfl) (by simp) ?_
    refine AllReadyIn.cons rfl (fun K hK=>?_) ?_
    ·go_simp
     refine hK _ _ ?_
     clear hK K
     refine wpAnyIn_ready (rs:=[8]) (by kernel_rfl) (by simp) ?_
     refine AllReadyIn.cons rfl (fun K hK=>?_) ?_
     ·go_simp
      refine hK _ _ ?_
      clear hK K
      refine wpAnyIn_ready (rs:=[9]) (by kernel_rfl) (by simp) ?_
      refine AllReadyIn.cons rfl (fun K hK=>?_) ?_
      ·go_simp
       gi_wp2_with (refine ⟨trivial,?_⟩;gi_at_call 178;refine (callsIn_wide.2 (HWH.out _ hd)).mono ?_;rintro e wa ⟨b2,v2,rfl,hxa,hxa2,hwa⟩;have HWA:=q8 hwa;clear hwa hxa2;have kbwa:=(hxa.block _ (z8 KBW.out) (fun f=>f)).trans KBW.out;have q0wa:=z6 kbwa 0;have kswa:=(hxa.block _ (z8 KSW.out) (fun f=>f)).trans KSW.out;have q1wa:=z6 kswa 0;have qfwa:=Q0 kswa 0;clear kbwa kswa)
       refine wpAnyIn_ready (rs:=[10]) (by kernel_rfl) (by simp) ?_
       refine AllReadyIn.cons rfl (fun K hK=>?_) ?_
       ·go_simp
        gi_wp2_with (refine ⟨trivial,?_⟩;gi_at_call 91;refine (callsIn_wide.2 (HAND.out _ _ _ hxa HWA.out)).mono ?_;rintro e wc ⟨b3,n3,c3',rfl,hxc,hwc⟩;have HWC:=q8 hwc;clear hwc;have kbwc:=(hxc.block _ (z8 KBW.out) (fun f=>f)).trans KBW.out;have q0wc:=z6 kbwc 0;have kswc:=(hxc.block _ (z8 KSW.out) (fun f=>f)).trans KSW.out;have q1wc:=z6 kswc 0;have qfwc:=Q0 kswc 0;clear kbwc kswc)
        refine wpAnyIn_ready (rs:=[11]) (by kernel_rfl) (by simp) ?_
        refine AllReadyIn.cons rfl (fun K hK=>?_) ?_
        ·go_simp
         refine hK _ _ ?_
         clear hK K
         refine wpAnyIn_done (by kernel_rfl) ?_ _
         exact HQ.out _ _ _ _ _ hxc HWC.out
        exact AllReadyIn.nil
       exact AllReadyIn.nil
      exact AllReadyIn.nil
     exact AllReadyIn.nil
    refine AllReadyIn.cons rfl (fun K hK=>?_) ?_
    ·go_simp
     refine hK _ _ ?_
     clear hK K
     refine wpAnyIn_ready (rs:=[0,9]) (by kernel_rfl) (by simp) ?_
     refine AllReadyIn.cons rfl (fun K hK=>?_) ?_
     ·go_simp
      refine hK _ _ ?_
      clear hK K
      refine wpAnyIn_ready (rs:=[9]) (by kernel_rfl) (by simp) ?_
      refine AllReadyIn.cons rfl (fun K hK=>?_) ?_
      ·go_simp
       gi_wp2_with (refine ⟨trivial,?_⟩;gi_at_call 178;refine (callsIn_wide.2 (HWH.out _ hd)).mono ?_;rintro e wa ⟨b2,v2,rfl,hxa,hxa2,hwa⟩;have HWA:=q8 hwa;clear hwa hxa2;have kbwa:=(hxa.block _ (z8 KBW.out) (fun f=>f)).trans KBW.out;have q0wa:=z6 kbwa 0;have kswa:=(hxa.block _ (z8 KSW.out) (fun f=>f)).trans KSW.out;have q1wa:=z6 kswa 0;have qfwa:=Q0 kswa 0;clear kbwa kswa)
       refine wpAnyIn_ready (rs:=[10]) (by kernel_rfl) (by simp) ?_
       refine AllReadyIn.cons rfl (fun K hK=>?_) ?_
       ·go_simp
        gi_wp2_with (refine ⟨trivial,?_⟩;gi_at_call 91;refine (callsIn_wide.2 (HAND.out _ _ _ hxa HWA.out)).mono ?_;rintro e wc ⟨b3,n3,c3',rfl,hxc,hwc⟩;have HWC:=q8 hwc;clear hwc;have kbwc:=(hxc.block _ (z8 KBW.out) (fun f=>f)).trans KBW.out;have q0wc:=z6 kbwc 0;have kswc:=(hxc.block _ (z8 KSW.out) (fun f=>f)).trans KSW.out;have q1wc:=z6 kswc 0;have qfwc:=Q0 kswc 0;clear kbwc kswc)
        refine wpAnyIn_ready (rs:=[11]) (by kernel_rfl) (by simp) ?_
        refine AllReadyIn.cons rfl (fun K hK=>?_) ?_
        ·go_simp
         refine hK _ _ ?_
         clear hK K
         refine wpAnyIn_done (by kernel_rfl) ?_ _
         exact HQ.out _ _ _ _ _ hxc HWC.out
        exact AllReadyIn.nil
       exact AllReadyIn.nil
      exact AllReadyIn.nil
     refine AllReadyIn.cons rfl (fun K hK=>?_) ?_
     ·go_simp
      gi_wp2_with (refine ⟨trivial,?_⟩;gi_at_call 178;refine (callsIn_wide.2 (HWH.out _ hd)).mono ?_;rintro e wa ⟨b2,v2,rfl,hxa,hxa2,hwa⟩;have HWA:=q8 hwa;clear hwa hxa2;have kbwa:=(hxa.block _ (z8 KBW.out) (fun f=>f)).trans KBW.out;have q0wa:=z6 kbwa 0;have kswa:=(hxa.block _ (z8 KSW.out) (fun f=>f)).trans KSW.out;have q1wa:=z6 kswa 0;have qfwa:=Q0 kswa 0;clear kbwa kswa)
      refine wpAnyIn_ready (rs:=[0]) (by kernel_rfl) (by simp) ?_
      refine AllReadyIn.cons rfl (fun K hK=>?_) ?_
      ·go_simp
       refine hK _ _ ?_
       clear hK K
       refine wpAnyIn_ready (rs:=[10]) (by kernel_rfl) (by simp) ?_
       refine AllReadyIn.cons rfl (fun K hK=>?_) ?_
       ·go_simp
        gi_wp2_with (refine ⟨trivial,?_⟩;gi_at_call 91;refine (callsIn_wide.2 (HAND.out _ _ _ hxa HWA.out)).mono ?_;rintro e wc ⟨b3,n3,c3',rfl,hxc,hwc⟩;have HWC:=q8 hwc;clear hwc;have kbwc:=(hxc.block _ (z8 KBW.out) (fun f=>f)).trans KBW.out;have q0wc:=z6 kbwc 0;have kswc:=(hxc.block _ (z8 KSW.out) (fun f=>f)).trans KSW.out;have q1wc:=z6 kswc 0;have qfwc:=Q0 kswc 0;clear kbwc kswc)
        refine wpAnyIn_ready (rs:=[11]) (by kernel_rfl) (by simp) ?_
        refine AllReadyIn.cons rfl (fun K hK=>?_) ?_
        ·go_simp
         refine hK _ _ ?_
         clear hK K
         refine wpAnyIn_done (by kernel_rfl) ?_ _
         exact HQ.out _ _ _ _ _ hxc HWC.out
        exact AllReadyIn.nil
       exact AllReadyIn.nil
      exact AllReadyIn.nil
     exact AllReadyIn.nil
    exact AllReadyIn.nil
   exact AllReadyIn.nil
  exact AllReadyIn.nil
 refine AllReadyIn.cons rfl (fun K hK=>?_) ?_
 ·go_simp
  refine hK _ _ ?_
  clear hK K
  refine wpAnyIn_take (i:=3) (v:=.pointer (some ⟨sb,0,none⟩)) rfl rfl (by kernel_rfl) (by kernel_rfl) (by kernel_rfl) (fun _ _ _ h=>h) ⟨Or.inl ⟨by rfl,by intro w;go_simp⟩,fun _=>rfl⟩ ?_
  refine wpAnyIn_take (i:=4) (v:=.pointer (some ⟨sb,2,none⟩)) rfl rfl (by kernel_rfl) (by kernel_rfl) (by kernel_rfl) (fun _ _ _ h=>h) ⟨Or.inl ⟨by rfl,by intro w;go_simp⟩,fun _=>rfl⟩ ?_
  refine wpAnyIn_ready (rs:=[0,1,5]) (by kernel_rfl) (by simp) ?_
  refine AllReadyIn.cons rfl (fun K hK=>?_) ?_
  ·go_simp
   refine hK _ _ ?_
   clear hK K
   refine wpAnyIn_ready (rs:=[1,5]) (by kernel_rfl) (by simp) ?_
   refine AllReadyIn.cons rfl (fun K hK=>?_) ?_
   ·go_simp
    refine hK _ _ ?_
    clear hK K
    refine wpAnyIn_ready (rs:=[5]) (by kernel_rfl) (by simp) ?_
    refine AllReadyIn.cons rfl (fun K hK=>?_) ?_
    ·go_simp
     refine hK _ _ ?_
     clear hK K
     refine wpAnyIn_take (i:=7) (v:=.pointer (some ⟨gt,x * 6,none⟩)) rfl rfl (by kernel_rfl) (by kernel_rfl) (by kernel_rfl) (fun _ _ _ h=>h) ⟨Or.inl ⟨by rfl,by intro w;go_simp⟩,fun _=>rfl⟩ ?_
     refine wpAnyIn_ready (rs:=[8]) (by kernel_rfl) (by simp) ?_
     refine AllReadyIn.cons rfl (fun K hK=>?_) ?_
     ·go_simp
      refine hK _ _ ?_
      clear hK K
      refine wpAnyIn_ready (rs:=[9]) (by kernel_rfl) (by simp) ?_
      refine AllReadyIn.cons rfl (fun K hK=>?_) ?_
      ·go_simp
       gi_wp2_with (refine ⟨trivial,?_⟩;gi_at_call 178;refine (callsIn_wide.2 (HWH.out _ hd)).mono ?_;rintro e wa ⟨b2,v2,rfl,hxa,hxa2,hwa⟩;have HWA:=q8 hwa;clear hwa hxa2;have kbwa:=(hxa.block _ (z8 KBW.out) (fun f=>f)).trans KBW.out;have q0wa:=z6 kbwa 0;have kswa:=(hxa.block _ (z8 KSW.out) (fun f=>f)).trans KSW.out;have q1wa:=z6 kswa 0;have qfwa:=Q0 kswa 0;clear kbwa kswa)
       refine wpAnyIn_ready (rs:=[10]) (by kernel_rfl) (by simp) ?_
       refine AllReadyIn.cons rfl (fun K hK=>?_) ?_
       ·go_simp
        gi_wp2_with (refine ⟨trivial,?_⟩;gi_at_call 91;refine (callsIn_wide.2 (HAND.out _ _ _ hxa HWA.out)).mono ?_;rintro e wc ⟨b3,n3,c3',rfl,hxc,hwc⟩;have HWC:=q8 hwc;clear hwc;have kbwc:=(hxc.block _ (z8 KBW.out) (fun f=>f)).trans KBW.out;have q0wc:=z6 kbwc 0;have kswc:=(hxc.block _ (z8 KSW.out) (fun f=>f)).trans KSW.out;have q1wc:=z6 kswc 0;have qfwc:=Q0 kswc 0;clear kbwc kswc)
        refine wpAnyIn_ready (rs:=[11]) (by kernel_rfl) (by simp) ?_
        refine AllReadyIn.cons rfl (fun K hK=>?_) ?_
        ·go_simp
         refine hK _ _ ?_
         clear hK K
         refine wpAnyIn_done (by kernel_rfl) ?_ _
         exact HQ.out _ _ _ _ _ hxc HWC.out
        exact AllReadyIn.nil
       exact AllReadyIn.nil
      exact AllReadyIn.nil
     exact AllReadyIn.nil
    exact AllReadyIn.nil
   refine AllReadyIn.cons rfl (fun K hK=>?_) ?_
   ·go_simp
    refine hK _ _ ?_
    clear hK K
    refine wpAnyIn_take (i:=7) (v:=.pointer (some ⟨gt,x * 6,none⟩)) rfl rfl (by kernel_rfl) (by kernel_rfl) (by kernel_rfl) (fun _ _ _ h=>h) ⟨Or.inl ⟨by rfl,by intro w;go_simp⟩,fun _=>rfl⟩ ?_
    refine wpAnyIn_ready (rs:=[1,8]) (by kernel_rfl) (by simp) ?_
    refine AllReadyIn.cons rfl (fun K hK=>?_) ?_
    ·go_simp
     refine hK _ _ ?_
     clear hK K
     refine wpAnyIn_ready (rs:=[8]) (by kernel_rfl) (by simp) ?_
     refine AllReadyIn.cons rfl (fun K hK=>?_) ?_
     ·go_simp
      refine hK _ _ ?_
      clear hK K
      refine wpAnyIn_ready (rs:=[9]) (by kernel_rfl) (by simp) ?_
      refine AllReadyIn.cons rfl (fun K hK=>?_) ?_
      ·go_simp
       gi_wp2_with (refine ⟨trivial,?_⟩;gi_at_call 178;refine (callsIn_wide.2 (HWH.out _ hd)).mono ?_;rintro e wa ⟨b2,v2,rfl,hxa,hxa2,hwa⟩;have HWA:=q8 hwa;clear hwa hxa2;have kbwa:=(hxa.block _ (z8 KBW.out) (fun f=>f)).trans KBW.out;have q0wa:=z6 kbwa 0;have kswa:=(hxa.block _ (z8 KSW.out) (fun f=>f)).trans KSW.out;have q1wa:=z6 kswa 0;have qfwa:=Q0 kswa 0;clear kbwa kswa)
       refine wpAnyIn_ready (rs:=[10]) (by kernel_rfl) (by simp) ?_
       refine AllReadyIn.cons rfl (fun K hK=>?_) ?_
       ·go_simp
        gi_wp2_with (refine ⟨trivial,?_⟩;gi_at_call 91;refine (callsIn_wide.2 (HAND.out _ _ _ hxa HWA.out)).mono ?_;rintro e wc ⟨b3,n3,c3',rfl,hxc,hwc⟩;have HWC:=q8 hwc;clear hwc;have kbwc:=(hxc.block _ (z8 KBW.out) (fun f=>f)).trans KBW.out;have q0wc:=z6 kbwc 0;have kswc:=(hxc.block _ (z8 KSW.out) (fun f=>f)).trans KSW.out;have q1wc:=z6 kswc 0;have qfwc:=Q0 kswc 0;clear kbwc kswc)
        refine wpAnyIn_ready (rs:=[11]) (by kernel_rfl) (by simp) ?_
        refine AllReadyIn.cons rfl (fun K hK=>?_) ?_
        ·go_simp
         refine hK _ _ ?_
         clear hK K
         refine wpAnyIn_done (by kernel_rfl) ?_ _
         exact HQ.out _ _ _ _ _ hxc HWC.out
        exact AllReadyIn.nil
       exact AllReadyIn.nil
      exact AllReadyIn.nil
     exact AllReadyIn.nil
    refine AllReadyIn.cons rfl (fun K hK=>?_) ?_
    ·go_simp
     refine hK _ _ ?_
     clear hK K
     refine wpAnyIn_ready (rs:=[1]) (by kernel_rfl) (by simp) ?_
     refine AllReadyIn.cons rfl (fun K hK=>?_) ?_
     ·go_simp
      refine hK _ _ ?_
      clear hK K
      refine wpAnyIn_ready (rs:=[9]) (by kernel_rfl) (by simp) ?_
      refine AllReadyIn.cons rfl (fun K hK=>?_) ?_
      ·go_simp
       gi_wp2_with (refine ⟨trivial,?_⟩;gi_at_call 178;refine (callsIn_wide.2 (HWH.out _ hd)).mono ?_;rintro e wa ⟨b2,v2,rfl,hxa,hxa2,hwa⟩;have HWA:=q8 hwa;clear hwa hxa2;have kbwa:=(hxa.block _ (z8 KBW.out) (fun f=>f)).trans KBW.out;have q0wa:=z6 kbwa 0;have kswa:=(hxa.block _ (z8 KSW.out) (fun f=>f)).trans KSW.out;have q1wa:=z6 kswa 0;have qfwa:=Q0 kswa 0;clear kbwa kswa)
       refine wpAnyIn_ready (rs:=[10]) (by kernel_rfl) (by simp) ?_
       refine AllReadyIn.cons rfl (fun K hK=>?_) ?_
       ·go_simp
        gi_wp2_with (refine ⟨trivial,?_⟩;gi_at_call 91;refine (callsIn_wide.2 (HAND.out _ _ _ hxa HWA.out)).mono ?_;rintro e wc ⟨b3,n3,c3',rfl,hxc,hwc⟩;have HWC:=q8 hwc;clear hwc;have kbwc:=(hxc.block _ (z8 KBW.out) (fun f=>f)).trans KBW.out;have q0wc:=z6 kbwc 0;have kswc:=(hxc.block _ (z8 KSW.out) (fun f=>f)).trans KSW.out;have q1wc:=z6 kswc 0;have qfwc:=Q0 kswc 0;clear kbwc kswc)
        refine wpAnyIn_ready (rs:=[11]) (by kernel_rfl) (by simp) ?_
        refine AllReadyIn.cons rfl (fun K hK=>?_) ?_
        ·go_simp
         refine hK _ _ ?_
         clear hK K
         refine wpAnyIn_done (by kernel_rfl) ?_ _
         exact HQ.out _ _ _ _ _ hxc HWC.out
        exact AllReadyIn.nil
       exact AllReadyIn.nil
      exact AllReadyIn.nil
     exact AllReadyIn.nil
    exact AllReadyIn.nil
   exact AllReadyIn.nil
  refine AllReadyIn.cons rfl (fun K hK=>?_) ?_
  ·go_simp
   refine hK _ _ ?_
   clear hK K
   refine wpAnyIn_ready (rs:=[0,5]) (by kernel_rfl) (by simp) ?_
   refine AllReadyIn.cons rfl (fun K hK=>?_) ?_
   ·go_simp
    refine hK _ _ ?_
    clear hK K
    refine wpAnyIn_ready (rs:=[5]) (by kernel_rfl) (by simp) ?_
    refine AllReadyIn.cons rfl (fun K hK=>?_) ?_
    ·go_simp
     refine hK _ _ ?_
     clear hK K
     refine wpAnyIn_take (i:=7) (v:=.pointer (some ⟨gt,x * 6,none⟩)) rfl rfl (by kernel_rfl) (by kernel_rfl) (by kernel_rfl) (fun _ _ _ h=>h) ⟨Or.inl ⟨by rfl,by intro w;go_simp⟩,fun _=>rfl⟩ ?_
     refine wpAnyIn_ready (rs:=[8]) (by kernel_rfl) (by simp) ?_
     refine AllReadyIn.cons rfl (fun K hK=>?_) ?_
     ·go_simp
      refine hK _ _ ?_
      clear hK K
      refine wpAnyIn_ready (rs:=[9]) (by kernel_rfl) (by simp) ?_
      refine AllReadyIn.cons rfl (fun K hK=>?_) ?_
      ·go_simp
       gi_wp2_with (refine ⟨trivial,?_⟩;gi_at_call 178;refine (callsIn_wide.2 (HWH.out _ hd)).mono ?_;rintro e wa ⟨b2,v2,rfl,hxa,hxa2,hwa⟩;have HWA:=q8 hwa;clear hwa hxa2;have kbwa:=(hxa.block _ (z8 KBW.out) (fun f=>f)).trans KBW.out;have q0wa:=z6 kbwa 0;have kswa:=(hxa.block _ (z8 KSW.out) (fun f=>f)).trans KSW.out;have q1wa:=z6 kswa 0;have qfwa:=Q0 kswa 0;clear kbwa kswa)
       refine wpAnyIn_ready (rs:=[10]) (by kernel_rfl) (by simp) ?_
       refine AllReadyIn.cons rfl (fun K hK=>?_) ?_
       ·go_simp
        gi_wp2_with (refine ⟨trivial,?_⟩;gi_at_call 91;refine (callsIn_wide.2 (HAND.out _ _ _ hxa HWA.out)).mono ?_;rintro e wc ⟨b3,n3,c3',rfl,hxc,hwc⟩;have HWC:=q8 hwc;clear hwc;have kbwc:=(hxc.block _ (z8 KBW.out) (fun f=>f)).trans KBW.out;have q0wc:=z6 kbwc 0;have kswc:=(hxc.block _ (z8 KSW.out) (fun f=>f)).trans KSW.out;have q1wc:=z6 kswc 0;have qfwc:=Q0 kswc 0;clear kbwc kswc)
        refine wpAnyIn_ready (rs:=[11]) (by kernel_rfl) (by simp) ?_
        refine AllReadyIn.cons rfl (fun K hK=>?_) ?_
        ·go_simp
         refine hK _ _ ?_
         clear hK K
         refine wpAnyIn_done (by kernel_rfl) ?_ _
         exact HQ.out _ _ _ _ _ hxc HWC.out
        exact AllReadyIn.nil
       exact AllReadyIn.nil
      exact AllReadyIn.nil
     exact AllReadyIn.nil
    exact AllReadyIn.nil
   refine AllReadyIn.cons rfl (fun K hK=>?_) ?_
   ·go_simp
    refine hK _ _ ?_
    clear hK K
    refine wpAnyIn_take (i:=7) (v:=.pointer (some ⟨gt,x * 6,none⟩)) rfl rfl (by kernel_rfl) (by kernel_rfl) (by kernel_rfl) (fun _ _ _ h=>h) ⟨Or.inl ⟨by rfl,by intro w;go_simp⟩,fun _=>rfl⟩ ?_
    refine wpAnyIn_ready (rs:=[0,8]) (by kernel_rfl) (by simp) ?_
    refine AllReadyIn.cons rfl (fun K hK=>?_) ?_
    ·go_simp
     refine hK _ _ ?_
     clear hK K
     refine wpAnyIn_ready (rs:=[8]) (by kernel_rfl) (by simp) ?_
     refine AllReadyIn.cons rfl (fun K hK=>?_) ?_
     ·go_simp
      refine hK _ _ ?_
      clear hK K
      refine wpAnyIn_ready (rs:=[9]) (by kernel_rfl) (by simp) ?_
      refine AllReadyIn.cons rfl (fun K hK=>?_) ?_
      ·go_simp
       gi_wp2_with (refine ⟨trivial,?_⟩;gi_at_call 178;refine (callsIn_wide.2 (HWH.out _ hd)).mono ?_;rintro e wa ⟨b2,v2,rfl,hxa,hxa2,hwa⟩;have HWA:=q8 hwa;clear hwa hxa2;have kbwa:=(hxa.block _ (z8 KBW.out) (fun f=>f)).trans KBW.out;have q0wa:=z6 kbwa 0;have kswa:=(hxa.block _ (z8 KSW.out) (fun f=>f)).trans KSW.out;have q1wa:=z6 kswa 0;have qfwa:=Q0 kswa 0;clear kbwa kswa)
       refine wpAnyIn_ready (rs:=[10]) (by kernel_rfl) (by simp) ?_
       refine AllReadyIn.cons rfl (fun K hK=>?_) ?_
       ·go_simp
        gi_wp2_with (refine ⟨trivial,?_⟩;gi_at_call 91;refine (callsIn_wide.2 (HAND.out _ _ _ hxa HWA.out)).mono ?_;rintro e wc ⟨b3,n3,c3',rfl,hxc,hwc⟩;have HWC:=q8 hwc;clear hwc;have kbwc:=(hxc.block _ (z8 KBW.out) (fun f=>f)).trans KBW.out;have q0wc:=z6 kbwc 0;have kswc:=(hxc.block _ (z8 KSW.out) (fun f=>f)).trans KSW.out;have q1wc:=z6 kswc 0;have qfwc:=Q0 kswc 0;clear kbwc kswc)
        refine wpAnyIn_ready (rs:=[11]) (by kernel_rfl) (by simp) ?_
        refine AllReadyIn.cons rfl (fun K hK=>?_) ?_
        ·go_simp
         refine hK _ _ ?_
         clear hK K
         refine wpAnyIn_done (by kernel_rfl) ?_ _
         exact HQ.out _ _ _ _ _ hxc HWC.out
        exact AllReadyIn.nil
       exact AllReadyIn.nil
      exact AllReadyIn.nil
     exact AllReadyIn.nil
    refine AllReadyIn.cons rfl (fun K hK=>?_) ?_
    ·go_simp
     refine hK _ _ ?_
     clear hK K
     refine wpAnyIn_ready (rs:=[0,9]) (by kernel_rfl) (by simp) ?_
     refine AllReadyIn.cons rfl (fun K hK=>?_) ?_
     ·go_simp
      refine hK _ _ ?_
      clear hK K
      refine wpAnyIn_ready (rs:=[9]) (by kernel_rfl) (by simp) ?_
      refine AllReadyIn.cons rfl (fun K hK=>?_) ?_
      ·go_simp
       gi_wp2_with (refine ⟨trivial,?_⟩;gi_at_call 178;refine (callsIn_wide.2 (HWH.out _ hd)).mono ?_;rintro e wa ⟨b2,v2,rfl,hxa,hxa2,hwa⟩;have HWA:=q8 hwa;clear hwa hxa2;have kbwa:=(hxa.block _ (z8 KBW.out) (fun f=>f)).trans KBW.out;have q0wa:=z6 kbwa 0;have kswa:=(hxa.block _ (z8 KSW.out) (fun f=>f)).trans KSW.out;have q1wa:=z6 kswa 0;have qfwa:=Q0 kswa 0;clear kbwa kswa)
       refine wpAnyIn_ready (rs:=[10]) (by kernel_rfl) (by simp) ?_
       refine AllReadyIn.cons rfl (fun K hK=>?_) ?_
       ·go_simp
        gi_wp2_with (refine ⟨trivial,?_⟩;gi_at_call 91;refine (callsIn_wide.2 (HAND.out _ _ _ hxa HWA.out)).mono ?_;rintro e wc ⟨b3,n3,c3',rfl,hxc,hwc⟩;have HWC:=q8 hwc;clear hwc;have kbwc:=(hxc.block _ (z8 KBW.out) (fun f=>f)).trans KBW.out;have q0wc:=z6 kbwc 0;have kswc:=(hxc.block _ (z8 KSW.out) (fun f=>f)).trans KSW.out;have q1wc:=z6 kswc 0;have qfwc:=Q0 kswc 0;clear kbwc kswc)
        refine wpAnyIn_ready (rs:=[11]) (by kernel_rfl) (by simp) ?_
        refine AllReadyIn.cons rfl (fun K hK=>?_) ?_
        ·go_simp
         refine hK _ _ ?_
         clear hK K
         refine wpAnyIn_done (by kernel_rfl) ?_ _
         exact HQ.out _ _ _ _ _ hxc HWC.out
        exact AllReadyIn.nil
       exact AllReadyIn.nil
      exact AllReadyIn.nil
     refine AllReadyIn.cons rfl (fun K hK=>?_) ?_
     ·go_simp
      gi_wp2_with (refine ⟨trivial,?_⟩;gi_at_call 178;refine (callsIn_wide.2 (HWH.out _ hd)).mono ?_;rintro e wa ⟨b2,v2,rfl,hxa,hxa2,hwa⟩;have HWA:=q8 hwa;clear hwa hxa2;have kbwa:=(hxa.block _ (z8 KBW.out) (fun f=>f)).trans KBW.out;have q0wa:=z6 kbwa 0;have kswa:=(hxa.block _ (z8 KSW.out) (fun f=>f)).trans KSW.out;have q1wa:=z6 kswa 0;have qfwa:=Q0 kswa 0;clear kbwa kswa)
      refine wpAnyIn_ready (rs:=[0]) (by kernel_rfl) (by simp) ?_
      refine AllReadyIn.cons rfl (fun K hK=>?_) ?_
      ·go_simp
       refine hK _ _ ?_
       clear hK K
       refine wpAnyIn_ready (rs:=[10]) (by kernel_rfl) (by simp) ?_
       refine AllReadyIn.cons rfl (fun K hK=>?_) ?_
       ·go_simp
        gi_wp2_with (refine ⟨trivial,?_⟩;gi_at_call 91;refine (callsIn_wide.2 (HAND.out _ _ _ hxa HWA.out)).mono ?_;rintro e wc ⟨b3,n3,c3',rfl,hxc,hwc⟩;have HWC:=q8 hwc;clear hwc;have kbwc:=(hxc.block _ (z8 KBW.out) (fun f=>f)).trans KBW.out;have q0wc:=z6 kbwc 0;have kswc:=(hxc.block _ (z8 KSW.out) (fun f=>f)).trans KSW.out;have q1wc:=z6 kswc 0;have qfwc:=Q0 kswc 0;clear kbwc kswc)
        refine wpAnyIn_ready (rs:=[11]) (by kernel_rfl) (by simp) ?_
        refine AllReadyIn.cons rfl (fun K hK=>?_) ?_
        ·go_simp
         refine hK _ _ ?_
         clear hK K
         refine wpAnyIn_done (by kernel_rfl) ?_ _
         exact HQ.out _ _ _ _ _ hxc HWC.out
        exact AllReadyIn.nil
       exact AllReadyIn.nil
      exact AllReadyIn.nil
     exact AllReadyIn.nil
    exact AllReadyIn.nil
   exact AllReadyIn.nil
  refine AllReadyIn.cons rfl (fun K hK=>?_) ?_
  ·go_simp
   refine hK _ _ ?_
   clear hK K
   refine wpAnyIn_take (i:=7) (v:=.pointer (some ⟨gt,x * 6,none⟩)) rfl rfl (by kernel_rfl) (by kernel_rfl) (by kernel_rfl) (fun _ _ _ h=>h) ⟨Or.inl ⟨by rfl,by intro w;go_simp⟩,fun _=>rfl⟩ ?_
   refine wpAnyIn_ready (rs:=[0,1,8]) (by kernel_rfl) (by simp) ?_
   refine AllReadyIn.cons rfl (fun K hK=>?_) ?_
   ·go_simp
    refine hK _ _ ?_
    clear hK K
    refine wpAnyIn_ready (rs:=[1,8]) (by kernel_rfl) (by simp) ?_
    refine AllReadyIn.cons rfl (fun K hK=>?_) ?_
    ·go_simp
     refine hK _ _ ?_
     clear hK K
     refine wpAnyIn_ready (rs:=[8]) (by kernel_rfl) (by simp) ?_
     refine AllReadyIn.cons rfl (fun K hK=>?_) ?_
     ·go_simp
      refine hK _ _ ?_
      clear hK K
      refine wpAnyIn_ready (rs:=[9]) (by kernel_rfl) (by simp) ?_
      refine AllReadyIn.cons rfl (fun K hK=>?_) ?_
      ·go_simp
       gi_wp2_with (refine ⟨trivial,?_⟩;gi_at_call 178;refine (callsIn_wide.2 (HWH.out _ hd)).mono ?_;rintro e wa ⟨b2,v2,rfl,hxa,hxa2,hwa⟩;have HWA:=q8 hwa;clear hwa hxa2;have kbwa:=(hxa.block _ (z8 KBW.out) (fun f=>f)).trans KBW.out;have q0wa:=z6 kbwa 0;have kswa:=(hxa.block _ (z8 KSW.out) (fun f=>f)).trans KSW.out;have q1wa:=z6 kswa 0;have qfwa:=Q0 kswa 0;clear kbwa kswa)
       refine wpAnyIn_ready (rs:=[10]) (by kernel_rfl) (by simp) ?_
       refine AllReadyIn.cons rfl (fun K hK=>?_) ?_
       ·go_simp
        gi_wp2_with (refine ⟨trivial,?_⟩;gi_at_call 91;refine (callsIn_wide.2 (HAND.out _ _ _ hxa HWA.out)).mono ?_;rintro e wc ⟨b3,n3,c3',rfl,hxc,hwc⟩;have HWC:=q8 hwc;clear hwc;have kbwc:=(hxc.block _ (z8 KBW.out) (fun f=>f)).trans KBW.out;have q0wc:=z6 kbwc 0;have kswc:=(hxc.block _ (z8 KSW.out) (fun f=>f)).trans KSW.out;have q1wc:=z6 kswc 0;have qfwc:=Q0 kswc 0;clear kbwc kswc)
        refine wpAnyIn_ready (rs:=[11]) (by kernel_rfl) (by simp) ?_
        refine AllReadyIn.cons rfl (fun K hK=>?_) ?_
        ·go_simp
         refine hK _ _ ?_
         clear hK K
         refine wpAnyIn_done (by kernel_rfl) ?_ _
         exact HQ.out _ _ _ _ _ hxc HWC.out
        exact AllReadyIn.nil
       exact AllReadyIn.nil
      exact AllReadyIn.nil
     exact AllReadyIn.nil
    refine AllReadyIn.cons rfl (fun K hK=>?_) ?_
    ·go_simp
     refine hK _ _ ?_
     clear hK K
     refine wpAnyIn_ready (rs:=[1]) (by kernel_rfl) (by simp) ?_
     refine AllReadyIn.cons rfl (fun K hK=>?_) ?_
     ·go_simp
      refine hK _ _ ?_
      clear hK K
      refine wpAnyIn_ready (rs:=[9]) (by kernel_rfl) (by simp) ?_
      refine AllReadyIn.cons rfl (fun K hK=>?_) ?_
      ·go_simp
       gi_wp2_with (refine ⟨trivial,?_⟩;gi_at_call 178;refine (callsIn_wide.2 (HWH.out _ hd)).mono ?_;rintro e wa ⟨b2,v2,rfl,hxa,hxa2,hwa⟩;have HWA:=q8 hwa;clear hwa hxa2;have kbwa:=(hxa.block _ (z8 KBW.out) (fun f=>f)).trans KBW.out;have q0wa:=z6 kbwa 0;have kswa:=(hxa.block _ (z8 KSW.out) (fun f=>f)).trans KSW.out;have q1wa:=z6 kswa 0;have qfwa:=Q0 kswa 0;clear kbwa kswa)
       refine wpAnyIn_ready (rs:=[10]) (by kernel_rfl) (by simp) ?_
       refine AllReadyIn.cons rfl (fun K hK=>?_) ?_
       ·go_simp
        gi_wp2_with (refine ⟨trivial,?_⟩;gi_at_call 91;refine (callsIn_wide.2 (HAND.out _ _ _ hxa HWA.out)).mono ?_;rintro e wc ⟨b3,n3,c3',rfl,hxc,hwc⟩;have HWC:=q8 hwc;clear hwc;have kbwc:=(hxc.block _ (z8 KBW.out) (fun f=>f)).trans KBW.out;have q0wc:=z6 kbwc 0;have kswc:=(hxc.block _ (z8 KSW.out) (fun f=>f)).trans KSW.out;have q1wc:=z6 kswc 0;have qfwc:=Q0 kswc 0;clear kbwc kswc)
        refine wpAnyIn_ready (rs:=[11]) (by kernel_rfl) (by simp) ?_
        refine AllReadyIn.cons rfl (fun K hK=>?_) ?_
        ·go_simp
         refine hK _ _ ?_
         clear hK K
         refine wpAnyIn_done (by kernel_rfl) ?_ _
         exact HQ.out _ _ _ _ _ hxc HWC.out
        exact AllReadyIn.nil
       exact AllReadyIn.nil
      exact AllReadyIn.nil
     exact AllReadyIn.nil
    exact AllReadyIn.nil
   refine AllReadyIn.cons rfl (fun K hK=>?_) ?_
   ·go_simp
    refine hK _ _ ?_
    clear hK K
    refine wpAnyIn_ready (rs:=[0,8]) (by kernel_rfl) (by simp) ?_
    refine AllReadyIn.cons rfl (fun K hK=>?_) ?_
    ·go_simp
     refine hK _ _ ?_
     clear hK K
     refine wpAnyIn_ready (rs:=[8]) (by kernel_rfl) (by simp) ?_
     refine AllReadyIn.cons rfl (fun K hK=>?_) ?_
     ·go_simp
      refine hK _ _ ?_
      clear hK K
      refine wpAnyIn_ready (rs:=[9]) (by kernel_rfl) (by simp) ?_
      refine AllReadyIn.cons rfl (fun K hK=>?_) ?_
      ·go_simp
       gi_wp2_with (refine ⟨trivial,?_⟩;gi_at_call 178;refine (callsIn_wide.2 (HWH.out _ hd)).mono ?_;rintro e wa ⟨b2,v2,rfl,hxa,hxa2,hwa⟩;have HWA:=q8 hwa;clear hwa hxa2;have kbwa:=(hxa.block _ (z8 KBW.out) (fun f=>f)).trans KBW.out;have q0wa:=z6 kbwa 0;have kswa:=(hxa.block _ (z8 KSW.out) (fun f=>f)).trans KSW.out;have q1wa:=z6 kswa 0;have qfwa:=Q0 kswa 0;clear kbwa kswa)
       refine wpAnyIn_ready (rs:=[10]) (by kernel_rfl) (by simp) ?_
       refine AllReadyIn.cons rfl (fun K hK=>?_) ?_
       ·go_simp
        gi_wp2_with (refine ⟨trivial,?_⟩;gi_at_call 91;refine (callsIn_wide.2 (HAND.out _ _ _ hxa HWA.out)).mono ?_;rintro e wc ⟨b3,n3,c3',rfl,hxc,hwc⟩;have HWC:=q8 hwc;clear hwc;have kbwc:=(hxc.block _ (z8 KBW.out) (fun f=>f)).trans KBW.out;have q0wc:=z6 kbwc 0;have kswc:=(hxc.block _ (z8 KSW.out) (fun f=>f)).trans KSW.out;have q1wc:=z6 kswc 0;have qfwc:=Q0 kswc 0;clear kbwc kswc)
        refine wpAnyIn_ready (rs:=[11]) (by kernel_rfl) (by simp) ?_
        refine AllReadyIn.cons rfl (fun K hK=>?_) ?_
        ·go_simp
         refine hK _ _ ?_
         clear hK K
         refine wpAnyIn_done (by kernel_rfl) ?_ _
         exact HQ.out _ _ _ _ _ hxc HWC.out
        exact AllReadyIn.nil
       exact AllReadyIn.nil
      exact AllReadyIn.nil
     exact AllReadyIn.nil
    refine AllReadyIn.cons rfl (fun K hK=>?_) ?_
    ·go_simp
     refine hK _ _ ?_
     clear hK K
     refine wpAnyIn_ready (rs:=[0,9]) (by kernel_rfl) (by simp) ?_
     refine AllReadyIn.cons rfl (fun K hK=>?_) ?_
     ·go_simp
      refine hK _ _ ?_
      clear hK K
      refine wpAnyIn_ready (rs:=[9]) (by kernel_rfl) (by simp) ?_
      refine AllReadyIn.cons rfl (fun K hK=>?_) ?_
      ·go_simp
       gi_wp2_with (refine ⟨trivial,?_⟩;gi_at_call 178;refine (callsIn_wide.2 (HWH.out _ hd)).mono ?_;rintro e wa ⟨b2,v2,rfl,hxa,hxa2,hwa⟩;have HWA:=q8 hwa;clear hwa hxa2;have kbwa:=(hxa.block _ (z8 KBW.out) (fun f=>f)).trans KBW.out;have q0wa:=z6 kbwa 0;have kswa:=(hxa.block _ (z8 KSW.out) (fun f=>f)).trans KSW.out;have q1wa:=z6 kswa 0;have qfwa:=Q0 kswa 0;clear kbwa kswa)
       refine wpAnyIn_ready (rs:=[10]) (by kernel_rfl) (by simp) ?_
       refine AllReadyIn.cons rfl (fun K hK=>?_) ?_
       ·go_simp
        gi_wp2_with (refine ⟨trivial,?_⟩;gi_at_call 91;refine (callsIn_wide.2 (HAND.out _ _ _ hxa HWA.out)).mono ?_;rintro e wc ⟨b3,n3,c3',rfl,hxc,hwc⟩;have HWC:=q8 hwc;clear hwc;have kbwc:=(hxc.block _ (z8 KBW.out) (fun f=>f)).trans KBW.out;have q0wc:=z6 kbwc 0;have kswc:=(hxc.block _ (z8 KSW.out) (fun f=>f)).trans KSW.out;have q1wc:=z6 kswc 0;have qfwc:=Q0 kswc 0;clear kbwc kswc)
        refine wpAnyIn_ready (rs:=[11]) (by kernel_rfl) (by simp) ?_
        refine AllReadyIn.cons rfl (fun K hK=>?_) ?_
        ·go_simp
         refine hK _ _ ?_
         clear hK K
         refine wpAnyIn_done (by kernel_rfl) ?_ _
         exact HQ.out _ _ _ _ _ hxc HWC.out
        exact AllReadyIn.nil
       exact AllReadyIn.nil
      exact AllReadyIn.nil
     refine AllReadyIn.cons rfl (fun K hK=>?_) ?_
     ·go_simp
      gi_wp2_with (refine ⟨trivial,?_⟩;gi_at_call 178;refine (callsIn_wide.2 (HWH.out _ hd)).mono ?_;rintro e wa ⟨b2,v2,rfl,hxa,hxa2,hwa⟩;have HWA:=q8 hwa;clear hwa hxa2;have kbwa:=(hxa.block _ (z8 KBW.out) (fun f=>f)).trans KBW.out;have q0wa:=z6 kbwa 0;have kswa:=(hxa.block _ (z8 KSW.out) (fun f=>f)).trans KSW.out;have q1wa:=z6 kswa 0;have qfwa:=Q0 kswa 0;clear kbwa kswa)
      refine wpAnyIn_ready (rs:=[0]) (by kernel_rfl) (by simp) ?_
      refine AllReadyIn.cons rfl (fun K hK=>?_) ?_
      ·go_simp
       refine hK _ _ ?_
       clear hK K
       refine wpAnyIn_ready (rs:=[10]) (by kernel_rfl) (by simp) ?_
       refine AllReadyIn.cons rfl (fun K hK=>?_) ?_
       ·go_simp
        gi_wp2_with (refine ⟨trivial,?_⟩;gi_at_call 91;refine (callsIn_wide.2 (HAND.out _ _ _ hxa HWA.out)).mono ?_;rintro e wc ⟨b3,n3,c3',rfl,hxc,hwc⟩;have HWC:=q8 hwc;clear hwc;have kbwc:=(hxc.block _ (z8 KBW.out) (fun f=>f)).trans KBW.out;have q0wc:=z6 kbwc 0;have kswc:=(hxc.block _ (z8 KSW.out) (fun f=>f)).trans KSW.out;have q1wc:=z6 kswc 0;have qfwc:=Q0 kswc 0;clear kbwc kswc)
        refine wpAnyIn_ready (rs:=[11]) (by kernel_rfl) (by simp) ?_
        refine AllReadyIn.cons rfl (fun K hK=>?_) ?_
        ·go_simp
         refine hK _ _ ?_
         clear hK K
         refine wpAnyIn_done (by kernel_rfl) ?_ _
         exact HQ.out _ _ _ _ _ hxc HWC.out
        exact AllReadyIn.nil
       exact AllReadyIn.nil
      exact AllReadyIn.nil
     exact AllReadyIn.nil
    exact AllReadyIn.nil
   refine AllReadyIn.cons rfl (fun K hK=>?_) ?_
   ·go_simp
    refine hK _ _ ?_
    clear hK K
    refine wpAnyIn_ready (rs:=[0,1]) (by kernel_rfl) (by simp) ?_
    refine AllReadyIn.cons rfl (fun K hK=>?_) ?_
    ·go_simp
     refine hK _ _ ?_
     clear hK K
     refine wpAnyIn_ready (rs:=[1]) (by kernel_rfl) (by simp) ?_
     refine AllReadyIn.cons rfl (fun K hK=>?_) ?_
     ·go_simp
      refine hK _ _ ?_
      clear hK K
      refine wpAnyIn_ready (rs:=[9]) (by kernel_rfl) (by simp) ?_
      refine AllReadyIn.cons rfl (fun K hK=>?_) ?_
      ·go_simp
       gi_wp2_with (refine ⟨trivial,?_⟩;gi_at_call 178;refine (callsIn_wide.2 (HWH.out _ hd)).mono ?_;rintro e wa ⟨b2,v2,rfl,hxa,hxa2,hwa⟩;have HWA:=q8 hwa;clear hwa hxa2;have kbwa:=(hxa.block _ (z8 KBW.out) (fun f=>f)).trans KBW.out;have q0wa:=z6 kbwa 0;have kswa:=(hxa.block _ (z8 KSW.out) (fun f=>f)).trans KSW.out;have q1wa:=z6 kswa 0;have qfwa:=Q0 kswa 0;clear kbwa kswa)
       refine wpAnyIn_ready (rs:=[10]) (by kernel_rfl) (by simp) ?_
       refine AllReadyIn.cons rfl (fun K hK=>?_) ?_
       ·go_simp
        gi_wp2_with (refine ⟨trivial,?_⟩;gi_at_call 91;refine (callsIn_wide.2 (HAND.out _ _ _ hxa HWA.out)).mono ?_;rintro e wc ⟨b3,n3,c3',rfl,hxc,hwc⟩;have HWC:=q8 hwc;clear hwc;have kbwc:=(hxc.block _ (z8 KBW.out) (fun f=>f)).trans KBW.out;have q0wc:=z6 kbwc 0;have kswc:=(hxc.block _ (z8 KSW.out) (fun f=>f)).trans KSW.out;have q1wc:=z6 kswc 0;have qfwc:=Q0 kswc 0;clear kbwc kswc)
        refine wpAnyIn_ready (rs:=[11]) (by kernel_rfl) (by simp) ?_
        refine AllReadyIn.cons rfl (fun K hK=>?_) ?_
        ·go_simp
         refine hK _ _ ?_
         clear hK K
         refine wpAnyIn_done (by kernel_rfl) ?_ _
         exact HQ.out _ _ _ _ _ hxc HWC.out
        exact AllReadyIn.nil
       exact AllReadyIn.nil
      exact AllReadyIn.nil
     exact AllReadyIn.nil
    refine AllReadyIn.cons rfl (fun K hK=>?_) ?_
    ·go_simp
     refine hK _ _ ?_
     clear hK K
     refine wpAnyIn_ready (rs:=[0,9]) (by kernel_rfl) (by simp) ?_
     refine AllReadyIn.cons rfl (fun K hK=>?_) ?_
     ·go_simp
      refine hK _ _ ?_
      clear hK K
      refine wpAnyIn_ready (rs:=[9]) (by kernel_rfl) (by simp) ?_
      refine AllReadyIn.cons rfl (fun K hK=>?_) ?_
      ·go_simp
       gi_wp2_with (refine ⟨trivial,?_⟩;gi_at_call 178;refine (callsIn_wide.2 (HWH.out _ hd)).mono ?_;rintro e wa ⟨b2,v2,rfl,hxa,hxa2,hwa⟩;have HWA:=q8 hwa;clear hwa hxa2;have kbwa:=(hxa.block _ (z8 KBW.out) (fun f=>f)).trans KBW.out;have q0wa:=z6 kbwa 0;have kswa:=(hxa.block _ (z8 KSW.out) (fun f=>f)).trans KSW.out;have q1wa:=z6 kswa 0;have qfwa:=Q0 kswa 0;clear kbwa kswa)
       refine wpAnyIn_ready (rs:=[10]) (by kernel_rfl) (by simp) ?_
       refine AllReadyIn.cons rfl (fun K hK=>?_) ?_
       ·go_simp
        gi_wp2_with (refine ⟨trivial,?_⟩;gi_at_call 91;refine (callsIn_wide.2 (HAND.out _ _ _ hxa HWA.out)).mono ?_;rintro e wc ⟨b3,n3,c3',rfl,hxc,hwc⟩;have HWC:=q8 hwc;clear hwc;have kbwc:=(hxc.block _ (z8 KBW.out) (fun f=>f)).trans KBW.out;have q0wc:=z6 kbwc 0;have kswc:=(hxc.block _ (z8 KSW.out) (fun f=>f)).trans KSW.out;have q1wc:=z6 kswc 0;have qfwc:=Q0 kswc 0;clear kbwc kswc)
        refine wpAnyIn_ready (rs:=[11]) (by kernel_rfl) (by simp) ?_
        refine AllReadyIn.cons rfl (fun K hK=>?_) ?_
        ·go_simp
         refine hK _ _ ?_
         clear hK K
         refine wpAnyIn_done (by kernel_rfl) ?_ _
         exact HQ.out _ _ _ _ _ hxc HWC.out
        exact AllReadyIn.nil
       exact AllReadyIn.nil
      exact AllReadyIn.nil
     refine AllReadyIn.cons rfl (fun K hK=>?_) ?_
     ·go_simp
      gi_wp2_with (refine ⟨trivial,?_⟩;gi_at_call 178;refine (callsIn_wide.2 (HWH.out _ hd)).mono ?_;rintro e wa ⟨b2,v2,rfl,hxa,hxa2,hwa⟩;have HWA:=q8 hwa;clear hwa hxa2;have kbwa:=(hxa.block _ (z8 KBW.out) (fun f=>f)).trans KBW.out;have q0wa:=z6 kbwa 0;have kswa:=(hxa.block _ (z8 KSW.out) (fun f=>f)).trans KSW.out;have q1wa:=z6 kswa 0;have qfwa:=Q0 kswa 0;clear kbwa kswa)
      refine wpAnyIn_ready (rs:=[0]) (by kernel_rfl) (by simp) ?_
      refine AllReadyIn.cons rfl (fun K hK=>?_) ?_
      ·go_simp
       refine hK _ _ ?_
       clear hK K
       refine wpAnyIn_ready (rs:=[10]) (by kernel_rfl) (by simp) ?_
       refine AllReadyIn.cons rfl (fun K hK=>?_) ?_
       ·go_simp
        gi_wp2_with (refine ⟨trivial,?_⟩;gi_at_call 91;refine (callsIn_wide.2 (HAND.out _ _ _ hxa HWA.out)).mono ?_;rintro e wc ⟨b3,n3,c3',rfl,hxc,hwc⟩;have HWC:=q8 hwc;clear hwc;have kbwc:=(hxc.block _ (z8 KBW.out) (fun f=>f)).trans KBW.out;have q0wc:=z6 kbwc 0;have kswc:=(hxc.block _ (z8 KSW.out) (fun f=>f)).trans KSW.out;have q1wc:=z6 kswc 0;have qfwc:=Q0 kswc 0;clear kbwc kswc)
        refine wpAnyIn_ready (rs:=[11]) (by kernel_rfl) (by simp) ?_
        refine AllReadyIn.cons rfl (fun K hK=>?_) ?_
        ·go_simp
         refine hK _ _ ?_
         clear hK K
         refine wpAnyIn_done (by kernel_rfl) ?_ _
         exact HQ.out _ _ _ _ _ hxc HWC.out
        exact AllReadyIn.nil
       exact AllReadyIn.nil
      exact AllReadyIn.nil
     exact AllReadyIn.nil
    exact AllReadyIn.nil
   exact AllReadyIn.nil
  exact AllReadyIn.nil
 exact AllReadyIn.nil
end
end Go.Proofs.YtegbdaffhpiacaaGreatDoor
