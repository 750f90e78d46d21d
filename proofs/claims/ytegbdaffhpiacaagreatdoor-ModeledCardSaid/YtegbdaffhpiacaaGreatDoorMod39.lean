/- A part of the proof. -/
import Derived.Test.YtegbdaffhpiacaaGreatDoorMod27
set_option maxRecDepth 100000
set_option maxHeartbeats 4000000
namespace Go.Proofs.YtegbdaffhpiacaaGreatDoor
open Go.Proofs.Tryz hiding parts
section
open Go.RowKit Ar
attribute [local go_sem] Oper.semAt_some
def rangeBody?:Code->Option Code
 | .seq a b=>(rangeBody? a).orElse (fun _=>rangeBody? b)
 | .block _ c=>rangeBody? c
 | .scope c=>rangeBody? c
 | .rangeFunc _ _ _ b=>some b
 | _=>none
def qB5(ops:Array Oper):Bool:=ops.toList.all (fun o=>match o.op with
 | .defer _=>false
 | _=>true)
theorem qv4{ops:Array Oper}(h:qB5 ops=true){i:Nat}{o:Oper}(ho:ops[i]?=some o):∀ c,o.op≠.defer c:=by
 intro c e;have hm:o∈ops.toList:=by rw[<- Array.getElem?_toList] at ho;exact List.mem_of_getElem? ho
 have:=List.all_eq_true.1 h o hm;rw[e] at this;simp at this
theorem zv2{F:Fence}{n:Nat}{P:Program}{md:Region.Mode}{ops:Array Oper}{Q:Exit->Act->World->Prop}(l:Nat)(hF:F.round=none)(hs:qB5 ops=true):
  ∀ zv4 listed a w,wpAnyIn F n P md ops Q zv4 listed a w->wpAnyIn (F.inRound l) n P md ops Q zv4 listed a w
 | 0,_,_,_,h=>h
 | zv4+1,listed,a,w,h=>by
  refine⟨h.1,fun i hi=>?_⟩;have h1:=h.2 i hi;unfold wpOpIn at h1 ⊢;cases ho:ops[i]? with
  | none=>rw[ho] at h1;exact zv2 l hF hs zv4 _ _ _ h1
  | some o=>
   rw[ho] at h1;simp only at h1 ⊢;split
   ·rename_i hw;rw[if_pos hw] at h1;have h2:=Oper.wpIn_mono (fun a w hk=>zv2 l hF hs zv4 _ a w hk) h1;refine⟨h2.1,?_⟩;have h3:=h2.2;rw[hF] at h3;show o.uponIn (F.inRound l) n P a _ Q ((o.semAt (some l) a.eval).run P w);rw[Oper.semAt_eq _ _ _ (qv4 hs ho)] at h3 ⊢
    generalize (execOp a.eval o).run P w=r at h3 ⊢
    cases r with
    | ok x w'=>cases x<;>exact h3
    | halt x w'=>cases x<;>exact h3
   ·rename_i hw;rw[if_neg hw] at h1;exact⟨h1.1,zv2 l hF hs zv4 _ _ _ h1.2⟩
section
variable{B:Nat}{W:World}{sb hb g:Nat}{c:ThV}{TK:List Z3}{AK:List PA}{tw:List (Nat × Nat)}{tv lv:Value}{tr:List St}{As:List (PA × Bool)}{ls:List (List (BitVec 64))}{TT:List W9}
theorem qX5{C body:Code}(hC:Tryz.f136.body=some C)(hbo:rangeBody? C=some body){l x b0 b1 b nb cp:Nat}{t:St}{l':List (BitVec 64)}{Q:Act->World->Prop}
  (h:SrR B W sb hb g c TK AK tw tv lv tr As ls TT) (hA:AK.length<=16) (ht:tr[x]?=some t) (htq:t.q<AK.length) (k0:W.heap[b0]?=some (.cells #[.pointer (some ⟨sb,0,none⟩)] 183)) (k1:W.heap[b1]?=some (.cells #[.slice (some ⟨b,0,none⟩) nb cp] 136)) (e2:WS W b (.slice (some ⟨b,0,none⟩) nb cp) l') (e4:l'.length=2^(AK.length-6))
  (hQ:∀ (a:Act) (wc:World) (b3 n3 c3:Nat),q9 (fun _=>False) W wc->W.heap.size<=b3/\WS wc b3 (.slice (some ⟨b3,0,none⟩) n3 c3) (V6 l' (X4 (2^(AK.length-6)) t.q t.yes))->Q a (wc.setCell ⟨b1,0,none⟩ (.slice (some ⟨b3,0,none⟩) n3 c3)))
  (u0 u1 u3 u4 u7 u8 u9 u10 u11 u12 u13 u14 u15 u16 u17 u18 u19 u20 u21 u22 u23 u24 u25 u26 u27 u28 u29 u30 u31 u32 u33 u34 u35 u36 u37 u38 u39 u40 u41 u42 u43 u44 u45 u46 u47 u48 u49 u50 u51 u52 u53 u54 u55 u56 u57 u58 u59 u60 u61 u62 u63 u64 u65 u66 u67 u68 u69 u70 u71 u72 u73:Value):
  body.wpIn (Fence.wide.inRound l) 3 prog (qX1 Q) { tmps:=#[u0,u1,.pointer (some ⟨b0,0,none⟩),u3,u4,.pointer (some ⟨b1,0,none⟩),.int .i64 (x:Int),u7,u8,u9,u10,u11,u12,u13,u14,u15,u16,u17,u18,u19,u20,u21,u22,u23,u24,u25,u26,u27,u28,u29,u30,u31,u32,u33,u34,u35,u36,u37,u38,u39,u40,u41,u42,u43,u44,u45,u46,u47,u48,u49,u50,u51,u52,u53,u54,u55,u56,u57,u58,u59,u60,u61,u62,u63,u64,u65,u66,u67,u68,u69,u70,u71,u72,u73],defers:=[] } W:=by
 obtain rfl:C=_:=Option.some.inj (hC.symm.trans (rfl:Tryz.f136.body=some _));obtain rfl:body=_:=Option.some.inj (hbo.symm.trans (rfl:rangeBody? _=some _));have hxlt:=(List.getElem?_eq_some_iff.1 ht).1;obtain⟨gt,cap,htv,hgt,y0,y1,y2,y3,y4,y5⟩:=h.step ht;have kbw:=h.blk;rw[htv] at kbw;have z2:=z6 kbw 2;have z0:=z6 k0 0;have z1:=z6 k1 0;have hk1024:2^(AK.length-6)<=1024:=Nat.pow_le_pow_right (n:=2) (by decide) (by omega:AK.length-6<=10);have HWH:Hid (∀ W',q9 (fun _=>False) W W'->Calls prog 178 #[.pointer (some ⟨sb,0,none⟩),.agg #[.int .i64 t.q,.bool t.yes,.bool t.turned,.int .u64 t.blame.a.toNat,.int .u64 t.blame.b.toNat,.int .u64 t.blame.c.toNat]] W' fun e w'=>∃ b v,e=.returned v/\q9 (fun _=>False) W w'/\(q9 (fun _=>False) W' w'/\WS w' b v (X4 (2^(AK.length-6)) t.q t.yes))) :=
  fun W' hx=>(zG7 (h.ext hx) hA t (by omega)).mono (fun e w' ⟨b,v,h1,h2,h3,h4⟩=>⟨b,v,h1,hx.trans h3,h3,h4⟩)
 have HAND:Hid (∀ (W':World) (b2:Nat) (v2:Value),q9 (fun _=>False) W W'->WS W' b2 v2 (X4 (2^(AK.length-6)) t.q t.yes)->Calls prog 91 #[.slice (some ⟨b,0,none⟩) nb cp,v2] W' fun e w'=>∃ b3 n3 c3,e=.returned (.slice (some ⟨b3,0,none⟩) n3 c3)/\q9 (fun _=>False) W w'/\(W.heap.size<=b3/\WS w' b3 (.slice (some ⟨b3,0,none⟩) n3 c3) (V6 l' (X4 (2^(AK.length-6)) t.q t.yes)))):=by intro W' b2 v2 hx h2;refine(zm9 (e2.ext hx (fun f=>f)) h2 (by rw[x8,e4]) (by omega)).mono ?_;rintro e w' ⟨b3,v3,h4,h5,h6,h7⟩;obtain⟨cc,cur,q1,_⟩:=h7.shape;subst q1;exact⟨b3,_,cc,h4,hx.trans h6,Nat.le_trans hx.size h5,h7⟩
 have KBW:=q8 k0;have KSW:=q8 k1;have HQ:=q8 hQ;have hd:q9 (fun _=>False) W W.drew:=(q9.refl _ W).drew;have hbl3:=z8 kbw;clear h k0 k1 e2 e4 ht htq kbw hQ hk1024 htv hA
 gi_wp2
 refine wpIn_region_any (by kernel_rfl) ?_
 change wpAnyIn _ _ _ _ _ _ _ _ _ (World.drew _)
 refine zv2 l rfl (by kernel_rfl) _ _ _ _ ?_;refine wpAnyIn_take (i:=6) (v:=.int .i64 (x:Int)) rfl rfl (by kernel_rfl) (by kernel_rfl) (by kernel_rfl) (fun _ _ _ h=>h) ⟨Or.inl ⟨by rfl,by intro w;go_simp⟩,fun _=>rfl⟩ ?_;refine wpAnyIn_ready (rs:=[0,1,2]) (by kernel_rfl) (by simp) ?_;refine AllReadyIn.cons rfl (fun K hK=>?_) ?_
 ·go_simp
  refine hK _ _ ?_;clear hK K;refine wpAnyIn_ready (rs:=[1,2]) (by kernel_rfl) (by simp) ?_;refine AllReadyIn.cons rfl (fun K hK=>?_) ?_
  ·go_simp
   refine hK _ _ ?_;clear hK K;refine wpAnyIn_ready (rs:=[2]) (by kernel_rfl) (by simp) ?_;refine AllReadyIn.cons rfl (fun K hK=>?_) ?_
   ·go_simp
    refine hK _ _ ?_;clear hK K;refine wpAnyIn_take (i:=3) (v:=.pointer (some ⟨sb,0,none⟩)) rfl rfl (by kernel_rfl) (by kernel_rfl) (by kernel_rfl) (fun _ _ _ h=>h) ⟨Or.inl ⟨by rfl,by intro w;go_simp⟩,fun _=>rfl⟩ ?_;refine wpAnyIn_take (i:=4) (v:=.pointer (some ⟨sb,2,none⟩)) rfl rfl (by kernel_rfl) (by kernel_rfl) (by kernel_rfl) (fun _ _ _ h=>h) ⟨Or.inl ⟨by rfl,by intro w;go_simp⟩,fun _=>rfl⟩ ?_;refine wpAnyIn_ready (rs:=[5]) (by kernel_rfl) (by simp) ?_;refine AllReadyIn.cons rfl (fun K hK=>?_) ?_
    ·go_simp
     refine hK _ _ ?_;clear hK K;refine wpAnyIn_take (i:=7) (v:=.pointer (some ⟨gt,x*6,none⟩)) rfl rfl (by kernel_rfl) (by kernel_rfl) (by kernel_rfl) (fun _ _ _ h=>h) ⟨Or.inl ⟨by rfl,by intro w;go_simp⟩,fun _=>rfl⟩ ?_;refine wpAnyIn_ready (rs:=[8]) (by kernel_rfl) (by simp) ?_;refine AllReadyIn.cons rfl (fun K hK=>?_) ?_
     ·go_simp
      refine hK _ _ ?_;clear hK K;refine wpAnyIn_ready (rs:=[9]) (by kernel_rfl) (by simp) ?_;refine AllReadyIn.cons rfl (fun K hK=>?_) ?_
      ·go_simp
       gi_wp2_with (refine⟨trivial,?_⟩;gi_at_call 178;refine(callsIn_wide.2 (HWH.out _ hd)).mono ?_;rintro e wa ⟨b2,v2,rfl,hxa,hxa2,hwa⟩;have HWA:=q8 hwa;clear hwa hxa2;have kbwa:=(hxa.block _ (z8 KBW.out) (fun f=>f)).trans KBW.out;have q0wa:=z6 kbwa 0;have kswa:=(hxa.block _ (z8 KSW.out) (fun f=>f)).trans KSW.out;have q1wa:=z6 kswa 0;have qfwa:=Q8 kswa 0;clear kbwa kswa)
       refine wpAnyIn_ready (rs:=[10]) (by kernel_rfl) (by simp) ?_;refine AllReadyIn.cons rfl (fun K hK=>?_) ?_
       ·go_simp
        gi_wp2_with (refine⟨trivial,?_⟩;gi_at_call 91;refine(callsIn_wide.2 (HAND.out _ _ _ hxa HWA.out)).mono ?_;rintro e wc ⟨b3,n3,c3',rfl,hxc,hwc⟩;have HWC:=q8 hwc;clear hwc;have kbwc:=(hxc.block _ (z8 KBW.out) (fun f=>f)).trans KBW.out;have q0wc:=z6 kbwc 0;have kswc:=(hxc.block _ (z8 KSW.out) (fun f=>f)).trans KSW.out;have q1wc:=z6 kswc 0;have qfwc:=Q8 kswc 0;clear kbwc kswc)
        refine wpAnyIn_ready (rs:=[11]) (by kernel_rfl) (by simp) ?_;refine AllReadyIn.cons rfl (fun K hK=>?_) ?_
        ·go_simp
         refine hK _ _ ?_;clear hK K;refine wpAnyIn_done (by kernel_rfl) ?_ _;exact HQ.out _ _ _ _ _ hxc HWC.out
        exact AllReadyIn.nil
       exact AllReadyIn.nil
      exact AllReadyIn.nil
     exact AllReadyIn.nil
    exact AllReadyIn.nil
   exact AllReadyIn.nil
  refine AllReadyIn.cons rfl (fun K hK=>?_) ?_
  ·go_simp
   refine hK _ _ ?_;clear hK K;refine wpAnyIn_take (i:=3) (v:=.pointer (some ⟨sb,0,none⟩)) rfl rfl (by kernel_rfl) (by kernel_rfl) (by kernel_rfl) (fun _ _ _ h=>h) ⟨Or.inl ⟨by rfl,by intro w;go_simp⟩,fun _=>rfl⟩ ?_;refine wpAnyIn_take (i:=4) (v:=.pointer (some ⟨sb,2,none⟩)) rfl rfl (by kernel_rfl) (by kernel_rfl) (by kernel_rfl) (fun _ _ _ h=>h) ⟨Or.inl ⟨by rfl,by intro w;go_simp⟩,fun _=>rfl⟩ ?_;refine wpAnyIn_ready (rs:=[1,5]) (by kernel_rfl) (by simp) ?_;refine AllReadyIn.cons rfl (fun K hK=>?_) ?_
   ·go_simp
    refine hK _ _ ?_;clear hK K;refine wpAnyIn_ready (rs:=[5]) (by kernel_rfl) (by simp) ?_;refine AllReadyIn.cons rfl (fun K hK=>?_) ?_
    ·go_simp
     refine hK _ _ ?_;clear hK K;refine wpAnyIn_take (i:=7) (v:=.pointer (some ⟨gt,x*6,none⟩)) rfl rfl (by kernel_rfl) (by kernel_rfl) (by kernel_rfl) (fun _ _ _ h=>h) ⟨Or.inl ⟨by rfl,by intro w;go_simp⟩,fun _=>rfl⟩ ?_;refine wpAnyIn_ready (rs:=[8]) (by kernel_rfl) (by simp) ?_;refine AllReadyIn.cons rfl (fun K hK=>?_) ?_
     ·go_simp
      refine hK _ _ ?_;clear hK K;refine wpAnyIn_ready (rs:=[9]) (by kernel_rfl) (by simp) ?_;refine AllReadyIn.cons rfl (fun K hK=>?_) ?_
      ·go_simp
       gi_wp2_with (refine⟨trivial,?_⟩;gi_at_call 178;refine(callsIn_wide.2 (HWH.out _ hd)).mono ?_;rintro e wa ⟨b2,v2,rfl,hxa,hxa2,hwa⟩;have HWA:=q8 hwa;clear hwa hxa2;have kbwa:=(hxa.block _ (z8 KBW.out) (fun f=>f)).trans KBW.out;have q0wa:=z6 kbwa 0;have kswa:=(hxa.block _ (z8 KSW.out) (fun f=>f)).trans KSW.out;have q1wa:=z6 kswa 0;have qfwa:=Q8 kswa 0;clear kbwa kswa)
       refine wpAnyIn_ready (rs:=[10]) (by kernel_rfl) (by simp) ?_;refine AllReadyIn.cons rfl (fun K hK=>?_) ?_
       ·go_simp
        gi_wp2_with (refine⟨trivial,?_⟩;gi_at_call 91;refine(callsIn_wide.2 (HAND.out _ _ _ hxa HWA.out)).mono ?_;rintro e wc ⟨b3,n3,c3',rfl,hxc,hwc⟩;have HWC:=q8 hwc;clear hwc;have kbwc:=(hxc.block _ (z8 KBW.out) (fun f=>f)).trans KBW.out;have q0wc:=z6 kbwc 0;have kswc:=(hxc.block _ (z8 KSW.out) (fun f=>f)).trans KSW.out;have q1wc:=z6 kswc 0;have qfwc:=Q8 kswc 0;clear kbwc kswc)
        refine wpAnyIn_ready (rs:=[11]) (by kernel_rfl) (by simp) ?_;refine AllReadyIn.cons rfl (fun K hK=>?_) ?_
        ·go_simp
         refine hK _ _ ?_;clear hK K;refine wpAnyIn_done (by kernel_rfl) ?_ _;exact HQ.out _ _ _ _ _ hxc HWC.out
        exact AllReadyIn.nil
       exact AllReadyIn.nil
      exact AllReadyIn.nil
     exact AllReadyIn.nil
    exact AllReadyIn.nil
   refine AllReadyIn.cons rfl (fun K hK=>?_) ?_
   ·go_simp
    refine hK _ _ ?_;clear hK K;refine wpAnyIn_take (i:=7) (v:=.pointer (some ⟨gt,x*6,none⟩)) rfl rfl (by kernel_rfl) (by kernel_rfl) (by kernel_rfl) (fun _ _ _ h=>h) ⟨Or.inl ⟨by rfl,by intro w;go_simp⟩,fun _=>rfl⟩ ?_;refine wpAnyIn_ready (rs:=[1,8]) (by kernel_rfl) (by simp) ?_;refine AllReadyIn.cons rfl (fun K hK=>?_) ?_
    ·go_simp
     refine hK _ _ ?_;clear hK K;refine wpAnyIn_ready (rs:=[8]) (by kernel_rfl) (by simp) ?_;refine AllReadyIn.cons rfl (fun K hK=>?_) ?_
     ·go_simp
      refine hK _ _ ?_;clear hK K;refine wpAnyIn_ready (rs:=[9]) (by kernel_rfl) (by simp) ?_;refine AllReadyIn.cons rfl (fun K hK=>?_) ?_
      ·go_simp
       gi_wp2_with (refine⟨trivial,?_⟩;gi_at_call 178;refine(callsIn_wide.2 (HWH.out _ hd)).mono ?_;rintro e wa ⟨b2,v2,rfl,hxa,hxa2,hwa⟩;have HWA:=q8 hwa;clear hwa hxa2;have kbwa:=(hxa.block _ (z8 KBW.out) (fun f=>f)).trans KBW.out;have q0wa:=z6 kbwa 0;have kswa:=(hxa.block _ (z8 KSW.out) (fun f=>f)).trans KSW.out;have q1wa:=z6 kswa 0;have qfwa:=Q8 kswa 0;clear kbwa kswa)
       refine wpAnyIn_ready (rs:=[10]) (by kernel_rfl) (by simp) ?_;refine AllReadyIn.cons rfl (fun K hK=>?_) ?_
       ·go_simp
        gi_wp2_with (refine⟨trivial,?_⟩;gi_at_call 91;refine(callsIn_wide.2 (HAND.out _ _ _ hxa HWA.out)).mono ?_;rintro e wc ⟨b3,n3,c3',rfl,hxc,hwc⟩;have HWC:=q8 hwc;clear hwc;have kbwc:=(hxc.block _ (z8 KBW.out) (fun f=>f)).trans KBW.out;have q0wc:=z6 kbwc 0;have kswc:=(hxc.block _ (z8 KSW.out) (fun f=>f)).trans KSW.out;have q1wc:=z6 kswc 0;have qfwc:=Q8 kswc 0;clear kbwc kswc)
        refine wpAnyIn_ready (rs:=[11]) (by kernel_rfl) (by simp) ?_;refine AllReadyIn.cons rfl (fun K hK=>?_) ?_
        ·go_simp
         refine hK _ _ ?_;clear hK K;refine wpAnyIn_done (by kernel_rfl) ?_ _;exact HQ.out _ _ _ _ _ hxc HWC.out
        exact AllReadyIn.nil
       exact AllReadyIn.nil
      exact AllReadyIn.nil
     exact AllReadyIn.nil
    refine AllReadyIn.cons rfl (fun K hK=>?_) ?_
    ·go_simp
     refine hK _ _ ?_;clear hK K;refine wpAnyIn_ready (rs:=[1]) (by kernel_rfl) (by simp) ?_;refine AllReadyIn.cons rfl (fun K hK=>?_) ?_
     ·go_simp
      refine hK _ _ ?_;clear hK K;refine wpAnyIn_ready (rs:=[9]) (by kernel_rfl) (by simp) ?_;refine AllReadyIn.cons rfl (fun K hK=>?_) ?_
      ·go_simp
       gi_wp2_with (refine⟨trivial,?_⟩;gi_at_call 178;refine(callsIn_wide.2 (HWH.out _ hd)).mono ?_;rintro e wa ⟨b2,v2,rfl,hxa,hxa2,hwa⟩;have HWA:=q8 hwa;clear hwa hxa2;have kbwa:=(hxa.block _ (z8 KBW.out) (fun f=>f)).trans KBW.out;have q0wa:=z6 kbwa 0;have kswa:=(hxa.block _ (z8 KSW.out) (fun f=>f)).trans KSW.out;have q1wa:=z6 kswa 0;have qfwa:=Q8 kswa 0;clear kbwa kswa)
       refine wpAnyIn_ready (rs:=[10]) (by kernel_rfl) (by simp) ?_;refine AllReadyIn.cons rfl (fun K hK=>?_) ?_
       ·go_simp
        gi_wp2_with (refine⟨trivial,?_⟩;gi_at_call 91;refine(callsIn_wide.2 (HAND.out _ _ _ hxa HWA.out)).mono ?_;rintro e wc ⟨b3,n3,c3',rfl,hxc,hwc⟩;have HWC:=q8 hwc;clear hwc;have kbwc:=(hxc.block _ (z8 KBW.out) (fun f=>f)).trans KBW.out;have q0wc:=z6 kbwc 0;have kswc:=(hxc.block _ (z8 KSW.out) (fun f=>f)).trans KSW.out;have q1wc:=z6 kswc 0;have qfwc:=Q8 kswc 0;clear kbwc kswc)
        refine wpAnyIn_ready (rs:=[11]) (by kernel_rfl) (by simp) ?_;refine AllReadyIn.cons rfl (fun K hK=>?_) ?_
        ·go_simp
         refine hK _ _ ?_;clear hK K;refine wpAnyIn_done (by kernel_rfl) ?_ _;exact HQ.out _ _ _ _ _ hxc HWC.out
        exact AllReadyIn.nil
       exact AllReadyIn.nil
      exact AllReadyIn.nil
     exact AllReadyIn.nil
    exact AllReadyIn.nil
   exact AllReadyIn.nil
  exact AllReadyIn.nil
 refine AllReadyIn.cons rfl (fun K hK=>?_) ?_
 ·go_simp
  refine hK _ _ ?_;clear hK K;refine wpAnyIn_ready (rs:=[0,2]) (by kernel_rfl) (by simp) ?_;refine AllReadyIn.cons rfl (fun K hK=>?_) ?_
  ·go_simp
   refine hK _ _ ?_;clear hK K;refine wpAnyIn_ready (rs:=[2]) (by kernel_rfl) (by simp) ?_;refine AllReadyIn.cons rfl (fun K hK=>?_) ?_
   ·go_simp
    refine hK _ _ ?_;clear hK K;refine wpAnyIn_take (i:=3) (v:=.pointer (some ⟨sb,0,none⟩)) rfl rfl (by kernel_rfl) (by kernel_rfl) (by kernel_rfl) (fun _ _ _ h=>h) ⟨Or.inl ⟨by rfl,by intro w;go_simp⟩,fun _=>rfl⟩ ?_;refine wpAnyIn_take (i:=4) (v:=.pointer (some ⟨sb,2,none⟩)) rfl rfl (by kernel_rfl) (by kernel_rfl) (by kernel_rfl) (fun _ _ _ h=>h) ⟨Or.inl ⟨by rfl,by intro w;go_simp⟩,fun _=>rfl⟩ ?_;refine wpAnyIn_ready (rs:=[5]) (by kernel_rfl) (by simp) ?_;refine AllReadyIn.cons rfl (fun K hK=>?_) ?_
    ·go_simp
     refine hK _ _ ?_;clear hK K;refine wpAnyIn_take (i:=7) (v:=.pointer (some ⟨gt,x*6,none⟩)) rfl rfl (by kernel_rfl) (by kernel_rfl) (by kernel_rfl) (fun _ _ _ h=>h) ⟨Or.inl ⟨by rfl,by intro w;go_simp⟩,fun _=>rfl⟩ ?_;refine wpAnyIn_ready (rs:=[8]) (by kernel_rfl) (by simp) ?_;refine AllReadyIn.cons rfl (fun K hK=>?_) ?_
     ·go_simp
      refine hK _ _ ?_;clear hK K;refine wpAnyIn_ready (rs:=[9]) (by kernel_rfl) (by simp) ?_;refine AllReadyIn.cons rfl (fun K hK=>?_) ?_
      ·go_simp
       gi_wp2_with (refine⟨trivial,?_⟩;gi_at_call 178;refine(callsIn_wide.2 (HWH.out _ hd)).mono ?_;rintro e wa ⟨b2,v2,rfl,hxa,hxa2,hwa⟩;have HWA:=q8 hwa;clear hwa hxa2;have kbwa:=(hxa.block _ (z8 KBW.out) (fun f=>f)).trans KBW.out;have q0wa:=z6 kbwa 0;have kswa:=(hxa.block _ (z8 KSW.out) (fun f=>f)).trans KSW.out;have q1wa:=z6 kswa 0;have qfwa:=Q8 kswa 0;clear kbwa kswa)
       refine wpAnyIn_ready (rs:=[10]) (by kernel_rfl) (by simp) ?_;refine AllReadyIn.cons rfl (fun K hK=>?_) ?_
       ·go_simp
        gi_wp2_with (refine⟨trivial,?_⟩;gi_at_call 91;refine(callsIn_wide.2 (HAND.out _ _ _ hxa HWA.out)).mono ?_;rintro e wc ⟨b3,n3,c3',rfl,hxc,hwc⟩;have HWC:=q8 hwc;clear hwc;have kbwc:=(hxc.block _ (z8 KBW.out) (fun f=>f)).trans KBW.out;have q0wc:=z6 kbwc 0;have kswc:=(hxc.block _ (z8 KSW.out) (fun f=>f)).trans KSW.out;have q1wc:=z6 kswc 0;have qfwc:=Q8 kswc 0;clear kbwc kswc)
        refine wpAnyIn_ready (rs:=[11]) (by kernel_rfl) (by simp) ?_;refine AllReadyIn.cons rfl (fun K hK=>?_) ?_
        ·go_simp
         refine hK _ _ ?_;clear hK K;refine wpAnyIn_done (by kernel_rfl) ?_ _;exact HQ.out _ _ _ _ _ hxc HWC.out
        exact AllReadyIn.nil
       exact AllReadyIn.nil
      exact AllReadyIn.nil
     exact AllReadyIn.nil
    exact AllReadyIn.nil
   exact AllReadyIn.nil
  refine AllReadyIn.cons rfl (fun K hK=>?_) ?_
  ·go_simp
   refine hK _ _ ?_;clear hK K;refine wpAnyIn_take (i:=3) (v:=.pointer (some ⟨sb,0,none⟩)) rfl rfl (by kernel_rfl) (by kernel_rfl) (by kernel_rfl) (fun _ _ _ h=>h) ⟨Or.inl ⟨by rfl,by intro w;go_simp⟩,fun _=>rfl⟩ ?_;refine wpAnyIn_take (i:=4) (v:=.pointer (some ⟨sb,2,none⟩)) rfl rfl (by kernel_rfl) (by kernel_rfl) (by kernel_rfl) (fun _ _ _ h=>h) ⟨Or.inl ⟨by rfl,by intro w;go_simp⟩,fun _=>rfl⟩ ?_;refine wpAnyIn_ready (rs:=[0,5]) (by kernel_rfl) (by simp) ?_;refine AllReadyIn.cons rfl (fun K hK=>?_) ?_
   ·go_simp
    refine hK _ _ ?_;clear hK K;refine wpAnyIn_ready (rs:=[5]) (by kernel_rfl) (by simp) ?_;refine AllReadyIn.cons rfl (fun K hK=>?_) ?_
    ·go_simp
     refine hK _ _ ?_;clear hK K;refine wpAnyIn_take (i:=7) (v:=.pointer (some ⟨gt,x*6,none⟩)) rfl rfl (by kernel_rfl) (by kernel_rfl) (by kernel_rfl) (fun _ _ _ h=>h) ⟨Or.inl ⟨by rfl,by intro w;go_simp⟩,fun _=>rfl⟩ ?_;refine wpAnyIn_ready (rs:=[8]) (by kernel_rfl) (by simp) ?_;refine AllReadyIn.cons rfl (fun K hK=>?_) ?_
     ·go_simp
      refine hK _ _ ?_;clear hK K;refine wpAnyIn_ready (rs:=[9]) (by kernel_rfl) (by simp) ?_;refine AllReadyIn.cons rfl (fun K hK=>?_) ?_
      ·go_simp
       gi_wp2_with (refine⟨trivial,?_⟩;gi_at_call 178;refine(callsIn_wide.2 (HWH.out _ hd)).mono ?_;rintro e wa ⟨b2,v2,rfl,hxa,hxa2,hwa⟩;have HWA:=q8 hwa;clear hwa hxa2;have kbwa:=(hxa.block _ (z8 KBW.out) (fun f=>f)).trans KBW.out;have q0wa:=z6 kbwa 0;have kswa:=(hxa.block _ (z8 KSW.out) (fun f=>f)).trans KSW.out;have q1wa:=z6 kswa 0;have qfwa:=Q8 kswa 0;clear kbwa kswa)
       refine wpAnyIn_ready (rs:=[10]) (by kernel_rfl) (by simp) ?_;refine AllReadyIn.cons rfl (fun K hK=>?_) ?_
       ·go_simp
        gi_wp2_with (refine⟨trivial,?_⟩;gi_at_call 91;refine(callsIn_wide.2 (HAND.out _ _ _ hxa HWA.out)).mono ?_;rintro e wc ⟨b3,n3,c3',rfl,hxc,hwc⟩;have HWC:=q8 hwc;clear hwc;have kbwc:=(hxc.block _ (z8 KBW.out) (fun f=>f)).trans KBW.out;have q0wc:=z6 kbwc 0;have kswc:=(hxc.block _ (z8 KSW.out) (fun f=>f)).trans KSW.out;have q1wc:=z6 kswc 0;have qfwc:=Q8 kswc 0;clear kbwc kswc)
        refine wpAnyIn_ready (rs:=[11]) (by kernel_rfl) (by simp) ?_;refine AllReadyIn.cons rfl (fun K hK=>?_) ?_
        ·go_simp
         refine hK _ _ ?_;clear hK K;refine wpAnyIn_done (by kernel_rfl) ?_ _;exact HQ.out _ _ _ _ _ hxc HWC.out
        exact AllReadyIn.nil
       exact AllReadyIn.nil
      exact AllReadyIn.nil
     exact AllReadyIn.nil
    exact AllReadyIn.nil
   refine AllReadyIn.cons rfl (fun K hK=>?_) ?_
   ·go_simp
    refine hK _ _ ?_;clear hK K;refine wpAnyIn_take (i:=7) (v:=.pointer (some ⟨gt,x*6,none⟩)) rfl rfl (by kernel_rfl) (by kernel_rfl) (by kernel_rfl) (fun _ _ _ h=>h) ⟨Or.inl ⟨by rfl,by intro w;go_simp⟩,fun _=>rfl⟩ ?_;refine wpAnyIn_ready (rs:=[0,8]) (by kernel_rfl) (by simp) ?_;refine AllReadyIn.cons rfl (fun K hK=>?_) ?_
    ·go_simp
     refine hK _ _ ?_;clear hK K;refine wpAnyIn_ready (rs:=[8]) (by kernel_rfl) (by simp) ?_;refine AllReadyIn.cons rfl (fun K hK=>?_) ?_
     ·go_simp
      refine hK _ _ ?_;clear hK K;refine wpAnyIn_ready (rs:=[9]) (by kernel_rfl) (by simp) ?_;refine AllReadyIn.cons rfl (fun K hK=>?_) ?_
      ·go_simp
       gi_wp2_with (refine⟨trivial,?_⟩;gi_at_call 178;refine(callsIn_wide.2 (HWH.out _ hd)).mono ?_;rintro e wa ⟨b2,v2,rfl,hxa,hxa2,hwa⟩;have HWA:=q8 hwa;clear hwa hxa2;have kbwa:=(hxa.block _ (z8 KBW.out) (fun f=>f)).trans KBW.out;have q0wa:=z6 kbwa 0;have kswa:=(hxa.block _ (z8 KSW.out) (fun f=>f)).trans KSW.out;have q1wa:=z6 kswa 0;have qfwa:=Q8 kswa 0;clear kbwa kswa)
       refine wpAnyIn_ready (rs:=[10]) (by kernel_rfl) (by simp) ?_;refine AllReadyIn.cons rfl (fun K hK=>?_) ?_
       ·go_simp
        gi_wp2_with (refine⟨trivial,?_⟩;gi_at_call 91;refine(callsIn_wide.2 (HAND.out _ _ _ hxa HWA.out)).mono ?_;rintro e wc ⟨b3,n3,c3',rfl,hxc,hwc⟩;have HWC:=q8 hwc;clear hwc;have kbwc:=(hxc.block _ (z8 KBW.out) (fun f=>f)).trans KBW.out;have q0wc:=z6 kbwc 0;have kswc:=(hxc.block _ (z8 KSW.out) (fun f=>f)).trans KSW.out;have q1wc:=z6 kswc 0;have qfwc:=Q8 kswc 0;clear kbwc kswc)
        refine wpAnyIn_ready (rs:=[11]) (by kernel_rfl) (by simp) ?_;refine AllReadyIn.cons rfl (fun K hK=>?_) ?_
        ·go_simp
         refine hK _ _ ?_;clear hK K;refine wpAnyIn_done (by kernel_rfl) ?_ _;exact HQ.out _ _ _ _ _ hxc HWC.out
        exact AllReadyIn.nil
       exact AllReadyIn.nil
      exact AllReadyIn.nil
     exact AllReadyIn.nil
    refine AllReadyIn.cons rfl (fun K hK=>?_) ?_
    ·go_simp
     refine hK _ _ ?_;clear hK K;refine wpAnyIn_ready (rs:=[0,9]) (by kernel_rfl) (by simp) ?_;refine AllReadyIn.cons rfl (fun K hK=>?_) ?_
     ·go_simp
      refine hK _ _ ?_;clear hK K;refine wpAnyIn_ready (rs:=[9]) (by kernel_rfl) (by simp) ?_;refine AllReadyIn.cons rfl (fun K hK=>?_) ?_
      ·go_simp
       gi_wp2_with (refine⟨trivial,?_⟩;gi_at_call 178;refine(callsIn_wide.2 (HWH.out _ hd)).mono ?_;rintro e wa ⟨b2,v2,rfl,hxa,hxa2,hwa⟩;have HWA:=q8 hwa;clear hwa hxa2;have kbwa:=(hxa.block _ (z8 KBW.out) (fun f=>f)).trans KBW.out;have q0wa:=z6 kbwa 0;have kswa:=(hxa.block _ (z8 KSW.out) (fun f=>f)).trans KSW.out;have q1wa:=z6 kswa 0;have qfwa:=Q8 kswa 0;clear kbwa kswa)
       refine wpAnyIn_ready (rs:=[10]) (by kernel_rfl) (by simp) ?_;refine AllReadyIn.cons rfl (fun K hK=>?_) ?_
       ·go_simp
        gi_wp2_with (refine⟨trivial,?_⟩;gi_at_call 91;refine(callsIn_wide.2 (HAND.out _ _ _ hxa HWA.out)).mono ?_;rintro e wc ⟨b3,n3,c3',rfl,hxc,hwc⟩;have HWC:=q8 hwc;clear hwc;have kbwc:=(hxc.block _ (z8 KBW.out) (fun f=>f)).trans KBW.out;have q0wc:=z6 kbwc 0;have kswc:=(hxc.block _ (z8 KSW.out) (fun f=>f)).trans KSW.out;have q1wc:=z6 kswc 0;have qfwc:=Q8 kswc 0;clear kbwc kswc)
        refine wpAnyIn_ready (rs:=[11]) (by kernel_rfl) (by simp) ?_;refine AllReadyIn.cons rfl (fun K hK=>?_) ?_
        ·go_simp
         refine hK _ _ ?_;clear hK K;refine wpAnyIn_done (by kernel_rfl) ?_ _;exact HQ.out _ _ _ _ _ hxc HWC.out
        exact AllReadyIn.nil
       exact AllReadyIn.nil
      exact AllReadyIn.nil
     refine AllReadyIn.cons rfl (fun K hK=>?_) ?_
     ·go_simp
      gi_wp2_with (refine⟨trivial,?_⟩;gi_at_call 178;refine(callsIn_wide.2 (HWH.out _ hd)).mono ?_;rintro e wa ⟨b2,v2,rfl,hxa,hxa2,hwa⟩;have HWA:=q8 hwa;clear hwa hxa2;have kbwa:=(hxa.block _ (z8 KBW.out) (fun f=>f)).trans KBW.out;have q0wa:=z6 kbwa 0;have kswa:=(hxa.block _ (z8 KSW.out) (fun f=>f)).trans KSW.out;have q1wa:=z6 kswa 0;have qfwa:=Q8 kswa 0;clear kbwa kswa)
      refine wpAnyIn_ready (rs:=[0]) (by kernel_rfl) (by simp) ?_;refine AllReadyIn.cons rfl (fun K hK=>?_) ?_
      ·go_simp
       refine hK _ _ ?_;clear hK K;refine wpAnyIn_ready (rs:=[10]) (by kernel_rfl) (by simp) ?_;refine AllReadyIn.cons rfl (fun K hK=>?_) ?_
       ·go_simp
        gi_wp2_with (refine⟨trivial,?_⟩;gi_at_call 91;refine(callsIn_wide.2 (HAND.out _ _ _ hxa HWA.out)).mono ?_;rintro e wc ⟨b3,n3,c3',rfl,hxc,hwc⟩;have HWC:=q8 hwc;clear hwc;have kbwc:=(hxc.block _ (z8 KBW.out) (fun f=>f)).trans KBW.out;have q0wc:=z6 kbwc 0;have kswc:=(hxc.block _ (z8 KSW.out) (fun f=>f)).trans KSW.out;have q1wc:=z6 kswc 0;have qfwc:=Q8 kswc 0;clear kbwc kswc)
        refine wpAnyIn_ready (rs:=[11]) (by kernel_rfl) (by simp) ?_;refine AllReadyIn.cons rfl (fun K hK=>?_) ?_
        ·go_simp
         refine hK _ _ ?_;clear hK K;refine wpAnyIn_done (by kernel_rfl) ?_ _;exact HQ.out _ _ _ _ _ hxc HWC.out
        exact AllReadyIn.nil
       exact AllReadyIn.nil
      exact AllReadyIn.nil
     exact AllReadyIn.nil
    exact AllReadyIn.nil
   exact AllReadyIn.nil
  exact AllReadyIn.nil
 refine AllReadyIn.cons rfl (fun K hK=>?_) ?_
 ·go_simp
  refine hK _ _ ?_;clear hK K;refine wpAnyIn_take (i:=3) (v:=.pointer (some ⟨sb,0,none⟩)) rfl rfl (by kernel_rfl) (by kernel_rfl) (by kernel_rfl) (fun _ _ _ h=>h) ⟨Or.inl ⟨by rfl,by intro w;go_simp⟩,fun _=>rfl⟩ ?_;refine wpAnyIn_take (i:=4) (v:=.pointer (some ⟨sb,2,none⟩)) rfl rfl (by kernel_rfl) (by kernel_rfl) (by kernel_rfl) (fun _ _ _ h=>h) ⟨Or.inl ⟨by rfl,by intro w;go_simp⟩,fun _=>rfl⟩ ?_;refine wpAnyIn_ready (rs:=[0,1,5]) (by kernel_rfl) (by simp) ?_;refine AllReadyIn.cons rfl (fun K hK=>?_) ?_
  ·go_simp
   refine hK _ _ ?_;clear hK K;refine wpAnyIn_ready (rs:=[1,5]) (by kernel_rfl) (by simp) ?_;refine AllReadyIn.cons rfl (fun K hK=>?_) ?_
   ·go_simp
    refine hK _ _ ?_;clear hK K;refine wpAnyIn_ready (rs:=[5]) (by kernel_rfl) (by simp) ?_;refine AllReadyIn.cons rfl (fun K hK=>?_) ?_
    ·go_simp
     refine hK _ _ ?_;clear hK K;refine wpAnyIn_take (i:=7) (v:=.pointer (some ⟨gt,x*6,none⟩)) rfl rfl (by kernel_rfl) (by kernel_rfl) (by kernel_rfl) (fun _ _ _ h=>h) ⟨Or.inl ⟨by rfl,by intro w;go_simp⟩,fun _=>rfl⟩ ?_;refine wpAnyIn_ready (rs:=[8]) (by kernel_rfl) (by simp) ?_;refine AllReadyIn.cons rfl (fun K hK=>?_) ?_
     ·go_simp
      refine hK _ _ ?_;clear hK K;refine wpAnyIn_ready (rs:=[9]) (by kernel_rfl) (by simp) ?_;refine AllReadyIn.cons rfl (fun K hK=>?_) ?_
      ·go_simp
       gi_wp2_with (refine⟨trivial,?_⟩;gi_at_call 178;refine(callsIn_wide.2 (HWH.out _ hd)).mono ?_;rintro e wa ⟨b2,v2,rfl,hxa,hxa2,hwa⟩;have HWA:=q8 hwa;clear hwa hxa2;have kbwa:=(hxa.block _ (z8 KBW.out) (fun f=>f)).trans KBW.out;have q0wa:=z6 kbwa 0;have kswa:=(hxa.block _ (z8 KSW.out) (fun f=>f)).trans KSW.out;have q1wa:=z6 kswa 0;have qfwa:=Q8 kswa 0;clear kbwa kswa)
       refine wpAnyIn_ready (rs:=[10]) (by kernel_rfl) (by simp) ?_;refine AllReadyIn.cons rfl (fun K hK=>?_) ?_
       ·go_simp
        gi_wp2_with (refine⟨trivial,?_⟩;gi_at_call 91;refine(callsIn_wide.2 (HAND.out _ _ _ hxa HWA.out)).mono ?_;rintro e wc ⟨b3,n3,c3',rfl,hxc,hwc⟩;have HWC:=q8 hwc;clear hwc;have kbwc:=(hxc.block _ (z8 KBW.out) (fun f=>f)).trans KBW.out;have q0wc:=z6 kbwc 0;have kswc:=(hxc.block _ (z8 KSW.out) (fun f=>f)).trans KSW.out;have q1wc:=z6 kswc 0;have qfwc:=Q8 kswc 0;clear kbwc kswc)
        refine wpAnyIn_ready (rs:=[11]) (by kernel_rfl) (by simp) ?_;refine AllReadyIn.cons rfl (fun K hK=>?_) ?_
        ·go_simp
         refine hK _ _ ?_;clear hK K;refine wpAnyIn_done (by kernel_rfl) ?_ _;exact HQ.out _ _ _ _ _ hxc HWC.out
        exact AllReadyIn.nil
       exact AllReadyIn.nil
      exact AllReadyIn.nil
     exact AllReadyIn.nil
    exact AllReadyIn.nil
   refine AllReadyIn.cons rfl (fun K hK=>?_) ?_
   ·go_simp
    refine hK _ _ ?_;clear hK K;refine wpAnyIn_take (i:=7) (v:=.pointer (some ⟨gt,x*6,none⟩)) rfl rfl (by kernel_rfl) (by kernel_rfl) (by kernel_rfl) (fun _ _ _ h=>h) ⟨Or.inl ⟨by rfl,by intro w;go_simp⟩,fun _=>rfl⟩ ?_;refine wpAnyIn_ready (rs:=[1,8]) (by kernel_rfl) (by simp) ?_;refine AllReadyIn.cons rfl (fun K hK=>?_) ?_
    ·go_simp
     refine hK _ _ ?_;clear hK K;refine wpAnyIn_ready (rs:=[8]) (by kernel_rfl) (by simp) ?_;refine AllReadyIn.cons rfl (fun K hK=>?_) ?_
     ·go_simp
      refine hK _ _ ?_;clear hK K;refine wpAnyIn_ready (rs:=[9]) (by kernel_rfl) (by simp) ?_;refine AllReadyIn.cons rfl (fun K hK=>?_) ?_
      ·go_simp
       gi_wp2_with (refine⟨trivial,?_⟩;gi_at_call 178;refine(callsIn_wide.2 (HWH.out _ hd)).mono ?_;rintro e wa ⟨b2,v2,rfl,hxa,hxa2,hwa⟩;have HWA:=q8 hwa;clear hwa hxa2;have kbwa:=(hxa.block _ (z8 KBW.out) (fun f=>f)).trans KBW.out;have q0wa:=z6 kbwa 0;have kswa:=(hxa.block _ (z8 KSW.out) (fun f=>f)).trans KSW.out;have q1wa:=z6 kswa 0;have qfwa:=Q8 kswa 0;clear kbwa kswa)
       refine wpAnyIn_ready (rs:=[10]) (by kernel_rfl) (by simp) ?_;refine AllReadyIn.cons rfl (fun K hK=>?_) ?_
       ·go_simp
        gi_wp2_with (refine⟨trivial,?_⟩;gi_at_call 91;refine(callsIn_wide.2 (HAND.out _ _ _ hxa HWA.out)).mono ?_;rintro e wc ⟨b3,n3,c3',rfl,hxc,hwc⟩;have HWC:=q8 hwc;clear hwc;have kbwc:=(hxc.block _ (z8 KBW.out) (fun f=>f)).trans KBW.out;have q0wc:=z6 kbwc 0;have kswc:=(hxc.block _ (z8 KSW.out) (fun f=>f)).trans KSW.out;have q1wc:=z6 kswc 0;have qfwc:=Q8 kswc 0;clear kbwc kswc)
        refine wpAnyIn_ready (rs:=[11]) (by kernel_rfl) (by simp) ?_;refine AllReadyIn.cons rfl (fun K hK=>?_) ?_
        ·go_simp
         refine hK _ _ ?_;clear hK K;refine wpAnyIn_done (by kernel_rfl) ?_ _;exact HQ.out _ _ _ _ _ hxc HWC.out
        exact AllReadyIn.nil
       exact AllReadyIn.nil
      exact AllReadyIn.nil
     exact AllReadyIn.nil
    refine AllReadyIn.cons rfl (fun K hK=>?_) ?_
    ·go_simp
     refine hK _ _ ?_;clear hK K;refine wpAnyIn_ready (rs:=[1]) (by kernel_rfl) (by simp) ?_;refine AllReadyIn.cons rfl (fun K hK=>?_) ?_
     ·go_simp
      refine hK _ _ ?_;clear hK K;refine wpAnyIn_ready (rs:=[9]) (by kernel_rfl) (by simp) ?_;refine AllReadyIn.cons rfl (fun K hK=>?_) ?_
      ·go_simp
       gi_wp2_with (refine⟨trivial,?_⟩;gi_at_call 178;refine(callsIn_wide.2 (HWH.out _ hd)).mono ?_;rintro e wa ⟨b2,v2,rfl,hxa,hxa2,hwa⟩;have HWA:=q8 hwa;clear hwa hxa2;have kbwa:=(hxa.block _ (z8 KBW.out) (fun f=>f)).trans KBW.out;have q0wa:=z6 kbwa 0;have kswa:=(hxa.block _ (z8 KSW.out) (fun f=>f)).trans KSW.out;have q1wa:=z6 kswa 0;have qfwa:=Q8 kswa 0;clear kbwa kswa)
       refine wpAnyIn_ready (rs:=[10]) (by kernel_rfl) (by simp) ?_;refine AllReadyIn.cons rfl (fun K hK=>?_) ?_
       ·go_simp
        gi_wp2_with (refine⟨trivial,?_⟩;gi_at_call 91;refine(callsIn_wide.2 (HAND.out _ _ _ hxa HWA.out)).mono ?_;rintro e wc ⟨b3,n3,c3',rfl,hxc,hwc⟩;have HWC:=q8 hwc;clear hwc;have kbwc:=(hxc.block _ (z8 KBW.out) (fun f=>f)).trans KBW.out;have q0wc:=z6 kbwc 0;have kswc:=(hxc.block _ (z8 KSW.out) (fun f=>f)).trans KSW.out;have q1wc:=z6 kswc 0;have qfwc:=Q8 kswc 0;clear kbwc kswc)
        refine wpAnyIn_ready (rs:=[11]) (by kernel_rfl) (by simp) ?_;refine AllReadyIn.cons rfl (fun K hK=>?_) ?_
        ·go_simp
         refine hK _ _ ?_;clear hK K;refine wpAnyIn_done (by kernel_rfl) ?_ _;exact HQ.out _ _ _ _ _ hxc HWC.out
        exact AllReadyIn.nil
       exact AllReadyIn.nil
      exact AllReadyIn.nil
     exact AllReadyIn.nil
    exact AllReadyIn.nil
   exact AllReadyIn.nil
  refine AllReadyIn.cons rfl (fun K hK=>?_) ?_
  ·go_simp
   refine hK _ _ ?_;clear hK K;refine wpAnyIn_ready (rs:=[0,5]) (by kernel_rfl) (by simp) ?_;refine AllReadyIn.cons rfl (fun K hK=>?_) ?_
   ·go_simp
    refine hK _ _ ?_;clear hK K;refine wpAnyIn_ready (rs:=[5]) (by kernel_rfl) (by simp) ?_;refine AllReadyIn.cons rfl (fun K hK=>?_) ?_
    ·go_simp
     refine hK _ _ ?_;clear hK K;refine wpAnyIn_take (i:=7) (v:=.pointer (some ⟨gt,x*6,none⟩)) rfl rfl (by kernel_rfl) (by kernel_rfl) (by kernel_rfl) (fun _ _ _ h=>h) ⟨Or.inl ⟨by rfl,by intro w;go_simp⟩,fun _=>rfl⟩ ?_;refine wpAnyIn_ready (rs:=[8]) (by kernel_rfl) (by simp) ?_;refine AllReadyIn.cons rfl (fun K hK=>?_) ?_
     ·go_simp
      refine hK _ _ ?_;clear hK K;refine wpAnyIn_ready (rs:=[9]) (by kernel_rfl) (by simp) ?_;refine AllReadyIn.cons rfl (fun K hK=>?_) ?_
      ·go_simp
       gi_wp2_with (refine⟨trivial,?_⟩;gi_at_call 178;refine(callsIn_wide.2 (HWH.out _ hd)).mono ?_;rintro e wa ⟨b2,v2,rfl,hxa,hxa2,hwa⟩;have HWA:=q8 hwa;clear hwa hxa2;have kbwa:=(hxa.block _ (z8 KBW.out) (fun f=>f)).trans KBW.out;have q0wa:=z6 kbwa 0;have kswa:=(hxa.block _ (z8 KSW.out) (fun f=>f)).trans KSW.out;have q1wa:=z6 kswa 0;have qfwa:=Q8 kswa 0;clear kbwa kswa)
       refine wpAnyIn_ready (rs:=[10]) (by kernel_rfl) (by simp) ?_;refine AllReadyIn.cons rfl (fun K hK=>?_) ?_
       ·go_simp
        gi_wp2_with (refine⟨trivial,?_⟩;gi_at_call 91;refine(callsIn_wide.2 (HAND.out _ _ _ hxa HWA.out)).mono ?_;rintro e wc ⟨b3,n3,c3',rfl,hxc,hwc⟩;have HWC:=q8 hwc;clear hwc;have kbwc:=(hxc.block _ (z8 KBW.out) (fun f=>f)).trans KBW.out;have q0wc:=z6 kbwc 0;have kswc:=(hxc.block _ (z8 KSW.out) (fun f=>f)).trans KSW.out;have q1wc:=z6 kswc 0;have qfwc:=Q8 kswc 0;clear kbwc kswc)
        refine wpAnyIn_ready (rs:=[11]) (by kernel_rfl) (by simp) ?_;refine AllReadyIn.cons rfl (fun K hK=>?_) ?_
        ·go_simp
         refine hK _ _ ?_;clear hK K;refine wpAnyIn_done (by kernel_rfl) ?_ _;exact HQ.out _ _ _ _ _ hxc HWC.out
        exact AllReadyIn.nil
       exact AllReadyIn.nil
      exact AllReadyIn.nil
     exact AllReadyIn.nil
    exact AllReadyIn.nil
   refine AllReadyIn.cons rfl (fun K hK=>?_) ?_
   ·go_simp
    refine hK _ _ ?_;clear hK K;refine wpAnyIn_take (i:=7) (v:=.pointer (some ⟨gt,x*6,none⟩)) rfl rfl (by kernel_rfl) (by kernel_rfl) (by kernel_rfl) (fun _ _ _ h=>h) ⟨Or.inl ⟨by rfl,by intro w;go_simp⟩,fun _=>rfl⟩ ?_;refine wpAnyIn_ready (rs:=[0,8]) (by kernel_rfl) (by simp) ?_;refine AllReadyIn.cons rfl (fun K hK=>?_) ?_
    ·go_simp
     refine hK _ _ ?_;clear hK K;refine wpAnyIn_ready (rs:=[8]) (by kernel_rfl) (by simp) ?_;refine AllReadyIn.cons rfl (fun K hK=>?_) ?_
     ·go_simp
      refine hK _ _ ?_;clear hK K;refine wpAnyIn_ready (rs:=[9]) (by kernel_rfl) (by simp) ?_;refine AllReadyIn.cons rfl (fun K hK=>?_) ?_
      ·go_simp
       gi_wp2_with (refine⟨trivial,?_⟩;gi_at_call 178;refine(callsIn_wide.2 (HWH.out _ hd)).mono ?_;rintro e wa ⟨b2,v2,rfl,hxa,hxa2,hwa⟩;have HWA:=q8 hwa;clear hwa hxa2;have kbwa:=(hxa.block _ (z8 KBW.out) (fun f=>f)).trans KBW.out;have q0wa:=z6 kbwa 0;have kswa:=(hxa.block _ (z8 KSW.out) (fun f=>f)).trans KSW.out;have q1wa:=z6 kswa 0;have qfwa:=Q8 kswa 0;clear kbwa kswa)
       refine wpAnyIn_ready (rs:=[10]) (by kernel_rfl) (by simp) ?_;refine AllReadyIn.cons rfl (fun K hK=>?_) ?_
       ·go_simp
        gi_wp2_with (refine⟨trivial,?_⟩;gi_at_call 91;refine(callsIn_wide.2 (HAND.out _ _ _ hxa HWA.out)).mono ?_;rintro e wc ⟨b3,n3,c3',rfl,hxc,hwc⟩;have HWC:=q8 hwc;clear hwc;have kbwc:=(hxc.block _ (z8 KBW.out) (fun f=>f)).trans KBW.out;have q0wc:=z6 kbwc 0;have kswc:=(hxc.block _ (z8 KSW.out) (fun f=>f)).trans KSW.out;have q1wc:=z6 kswc 0;have qfwc:=Q8 kswc 0;clear kbwc kswc)
        refine wpAnyIn_ready (rs:=[11]) (by kernel_rfl) (by simp) ?_;refine AllReadyIn.cons rfl (fun K hK=>?_) ?_
        ·go_simp
         refine hK _ _ ?_;clear hK K;refine wpAnyIn_done (by kernel_rfl) ?_ _;exact HQ.out _ _ _ _ _ hxc HWC.out
        exact AllReadyIn.nil
       exact AllReadyIn.nil
      exact AllReadyIn.nil
     exact AllReadyIn.nil
    refine AllReadyIn.cons rfl (fun K hK=>?_) ?_
    ·go_simp
     refine hK _ _ ?_;clear hK K;refine wpAnyIn_ready (rs:=[0,9]) (by kernel_rfl) (by simp) ?_;refine AllReadyIn.cons rfl (fun K hK=>?_) ?_
     ·go_simp
      refine hK _ _ ?_;clear hK K;refine wpAnyIn_ready (rs:=[9]) (by kernel_rfl) (by simp) ?_;refine AllReadyIn.cons rfl (fun K hK=>?_) ?_
      ·go_simp
       gi_wp2_with (refine⟨trivial,?_⟩;gi_at_call 178;refine(callsIn_wide.2 (HWH.out _ hd)).mono ?_;rintro e wa ⟨b2,v2,rfl,hxa,hxa2,hwa⟩;have HWA:=q8 hwa;clear hwa hxa2;have kbwa:=(hxa.block _ (z8 KBW.out) (fun f=>f)).trans KBW.out;have q0wa:=z6 kbwa 0;have kswa:=(hxa.block _ (z8 KSW.out) (fun f=>f)).trans KSW.out;have q1wa:=z6 kswa 0;have qfwa:=Q8 kswa 0;clear kbwa kswa)
       refine wpAnyIn_ready (rs:=[10]) (by kernel_rfl) (by simp) ?_;refine AllReadyIn.cons rfl (fun K hK=>?_) ?_
       ·go_simp
        gi_wp2_with (refine⟨trivial,?_⟩;gi_at_call 91;refine(callsIn_wide.2 (HAND.out _ _ _ hxa HWA.out)).mono ?_;rintro e wc ⟨b3,n3,c3',rfl,hxc,hwc⟩;have HWC:=q8 hwc;clear hwc;have kbwc:=(hxc.block _ (z8 KBW.out) (fun f=>f)).trans KBW.out;have q0wc:=z6 kbwc 0;have kswc:=(hxc.block _ (z8 KSW.out) (fun f=>f)).trans KSW.out;have q1wc:=z6 kswc 0;have qfwc:=Q8 kswc 0;clear kbwc kswc)
        refine wpAnyIn_ready (rs:=[11]) (by kernel_rfl) (by simp) ?_;refine AllReadyIn.cons rfl (fun K hK=>?_) ?_
        ·go_simp
         refine hK _ _ ?_;clear hK K;refine wpAnyIn_done (by kernel_rfl) ?_ _;exact HQ.out _ _ _ _ _ hxc HWC.out
        exact AllReadyIn.nil
       exact AllReadyIn.nil
      exact AllReadyIn.nil
     refine AllReadyIn.cons rfl (fun K hK=>?_) ?_
     ·go_simp
      gi_wp2_with (refine⟨trivial,?_⟩;gi_at_call 178;refine(callsIn_wide.2 (HWH.out _ hd)).mono ?_;rintro e wa ⟨b2,v2,rfl,hxa,hxa2,hwa⟩;have HWA:=q8 hwa;clear hwa hxa2;have kbwa:=(hxa.block _ (z8 KBW.out) (fun f=>f)).trans KBW.out;have q0wa:=z6 kbwa 0;have kswa:=(hxa.block _ (z8 KSW.out) (fun f=>f)).trans KSW.out;have q1wa:=z6 kswa 0;have qfwa:=Q8 kswa 0;clear kbwa kswa)
      refine wpAnyIn_ready (rs:=[0]) (by kernel_rfl) (by simp) ?_;refine AllReadyIn.cons rfl (fun K hK=>?_) ?_
      ·go_simp
       refine hK _ _ ?_;clear hK K;refine wpAnyIn_ready (rs:=[10]) (by kernel_rfl) (by simp) ?_;refine AllReadyIn.cons rfl (fun K hK=>?_) ?_
       ·go_simp
        gi_wp2_with (refine⟨trivial,?_⟩;gi_at_call 91;refine(callsIn_wide.2 (HAND.out _ _ _ hxa HWA.out)).mono ?_;rintro e wc ⟨b3,n3,c3',rfl,hxc,hwc⟩;have HWC:=q8 hwc;clear hwc;have kbwc:=(hxc.block _ (z8 KBW.out) (fun f=>f)).trans KBW.out;have q0wc:=z6 kbwc 0;have kswc:=(hxc.block _ (z8 KSW.out) (fun f=>f)).trans KSW.out;have q1wc:=z6 kswc 0;have qfwc:=Q8 kswc 0;clear kbwc kswc)
        refine wpAnyIn_ready (rs:=[11]) (by kernel_rfl) (by simp) ?_;refine AllReadyIn.cons rfl (fun K hK=>?_) ?_
        ·go_simp
         refine hK _ _ ?_;clear hK K;refine wpAnyIn_done (by kernel_rfl) ?_ _;exact HQ.out _ _ _ _ _ hxc HWC.out
        exact AllReadyIn.nil
       exact AllReadyIn.nil
      exact AllReadyIn.nil
     exact AllReadyIn.nil
    exact AllReadyIn.nil
   exact AllReadyIn.nil
  refine AllReadyIn.cons rfl (fun K hK=>?_) ?_
  ·go_simp
   refine hK _ _ ?_;clear hK K;refine wpAnyIn_take (i:=7) (v:=.pointer (some ⟨gt,x*6,none⟩)) rfl rfl (by kernel_rfl) (by kernel_rfl) (by kernel_rfl) (fun _ _ _ h=>h) ⟨Or.inl ⟨by rfl,by intro w;go_simp⟩,fun _=>rfl⟩ ?_;refine wpAnyIn_ready (rs:=[0,1,8]) (by kernel_rfl) (by simp) ?_;refine AllReadyIn.cons rfl (fun K hK=>?_) ?_
   ·go_simp
    refine hK _ _ ?_;clear hK K;refine wpAnyIn_ready (rs:=[1,8]) (by kernel_rfl) (by simp) ?_;refine AllReadyIn.cons rfl (fun K hK=>?_) ?_
    ·go_simp
     refine hK _ _ ?_;clear hK K;refine wpAnyIn_ready (rs:=[8]) (by kernel_rfl) (by simp) ?_;refine AllReadyIn.cons rfl (fun K hK=>?_) ?_
     ·go_simp
      refine hK _ _ ?_;clear hK K;refine wpAnyIn_ready (rs:=[9]) (by kernel_rfl) (by simp) ?_;refine AllReadyIn.cons rfl (fun K hK=>?_) ?_
      ·go_simp
       gi_wp2_with (refine⟨trivial,?_⟩;gi_at_call 178;refine(callsIn_wide.2 (HWH.out _ hd)).mono ?_;rintro e wa ⟨b2,v2,rfl,hxa,hxa2,hwa⟩;have HWA:=q8 hwa;clear hwa hxa2;have kbwa:=(hxa.block _ (z8 KBW.out) (fun f=>f)).trans KBW.out;have q0wa:=z6 kbwa 0;have kswa:=(hxa.block _ (z8 KSW.out) (fun f=>f)).trans KSW.out;have q1wa:=z6 kswa 0;have qfwa:=Q8 kswa 0;clear kbwa kswa)
       refine wpAnyIn_ready (rs:=[10]) (by kernel_rfl) (by simp) ?_;refine AllReadyIn.cons rfl (fun K hK=>?_) ?_
       ·go_simp
        gi_wp2_with (refine⟨trivial,?_⟩;gi_at_call 91;refine(callsIn_wide.2 (HAND.out _ _ _ hxa HWA.out)).mono ?_;rintro e wc ⟨b3,n3,c3',rfl,hxc,hwc⟩;have HWC:=q8 hwc;clear hwc;have kbwc:=(hxc.block _ (z8 KBW.out) (fun f=>f)).trans KBW.out;have q0wc:=z6 kbwc 0;have kswc:=(hxc.block _ (z8 KSW.out) (fun f=>f)).trans KSW.out;have q1wc:=z6 kswc 0;have qfwc:=Q8 kswc 0;clear kbwc kswc)
        refine wpAnyIn_ready (rs:=[11]) (by kernel_rfl) (by simp) ?_;refine AllReadyIn.cons rfl (fun K hK=>?_) ?_
        ·go_simp
         refine hK _ _ ?_;clear hK K;refine wpAnyIn_done (by kernel_rfl) ?_ _;exact HQ.out _ _ _ _ _ hxc HWC.out
        exact AllReadyIn.nil
       exact AllReadyIn.nil
      exact AllReadyIn.nil
     exact AllReadyIn.nil
    refine AllReadyIn.cons rfl (fun K hK=>?_) ?_
    ·go_simp
     refine hK _ _ ?_;clear hK K;refine wpAnyIn_ready (rs:=[1]) (by kernel_rfl) (by simp) ?_;refine AllReadyIn.cons rfl (fun K hK=>?_) ?_
     ·go_simp
      refine hK _ _ ?_;clear hK K;refine wpAnyIn_ready (rs:=[9]) (by kernel_rfl) (by simp) ?_;refine AllReadyIn.cons rfl (fun K hK=>?_) ?_
      ·go_simp
       gi_wp2_with (refine⟨trivial,?_⟩;gi_at_call 178;refine(callsIn_wide.2 (HWH.out _ hd)).mono ?_;rintro e wa ⟨b2,v2,rfl,hxa,hxa2,hwa⟩;have HWA:=q8 hwa;clear hwa hxa2;have kbwa:=(hxa.block _ (z8 KBW.out) (fun f=>f)).trans KBW.out;have q0wa:=z6 kbwa 0;have kswa:=(hxa.block _ (z8 KSW.out) (fun f=>f)).trans KSW.out;have q1wa:=z6 kswa 0;have qfwa:=Q8 kswa 0;clear kbwa kswa)
       refine wpAnyIn_ready (rs:=[10]) (by kernel_rfl) (by simp) ?_;refine AllReadyIn.cons rfl (fun K hK=>?_) ?_
       ·go_simp
        gi_wp2_with (refine⟨trivial,?_⟩;gi_at_call 91;refine(callsIn_wide.2 (HAND.out _ _ _ hxa HWA.out)).mono ?_;rintro e wc ⟨b3,n3,c3',rfl,hxc,hwc⟩;have HWC:=q8 hwc;clear hwc;have kbwc:=(hxc.block _ (z8 KBW.out) (fun f=>f)).trans KBW.out;have q0wc:=z6 kbwc 0;have kswc:=(hxc.block _ (z8 KSW.out) (fun f=>f)).trans KSW.out;have q1wc:=z6 kswc 0;have qfwc:=Q8 kswc 0;clear kbwc kswc)
        refine wpAnyIn_ready (rs:=[11]) (by kernel_rfl) (by simp) ?_;refine AllReadyIn.cons rfl (fun K hK=>?_) ?_
        ·go_simp
         refine hK _ _ ?_;clear hK K;refine wpAnyIn_done (by kernel_rfl) ?_ _;exact HQ.out _ _ _ _ _ hxc HWC.out
        exact AllReadyIn.nil
       exact AllReadyIn.nil
      exact AllReadyIn.nil
     exact AllReadyIn.nil
    exact AllReadyIn.nil
   refine AllReadyIn.cons rfl (fun K hK=>?_) ?_
   ·go_simp
    refine hK _ _ ?_;clear hK K;refine wpAnyIn_ready (rs:=[0,8]) (by kernel_rfl) (by simp) ?_;refine AllReadyIn.cons rfl (fun K hK=>?_) ?_
    ·go_simp
     refine hK _ _ ?_;clear hK K;refine wpAnyIn_ready (rs:=[8]) (by kernel_rfl) (by simp) ?_;refine AllReadyIn.cons rfl (fun K hK=>?_) ?_
     ·go_simp
      refine hK _ _ ?_;clear hK K;refine wpAnyIn_ready (rs:=[9]) (by kernel_rfl) (by simp) ?_;refine AllReadyIn.cons rfl (fun K hK=>?_) ?_
      ·go_simp
       gi_wp2_with (refine⟨trivial,?_⟩;gi_at_call 178;refine(callsIn_wide.2 (HWH.out _ hd)).mono ?_;rintro e wa ⟨b2,v2,rfl,hxa,hxa2,hwa⟩;have HWA:=q8 hwa;clear hwa hxa2;have kbwa:=(hxa.block _ (z8 KBW.out) (fun f=>f)).trans KBW.out;have q0wa:=z6 kbwa 0;have kswa:=(hxa.block _ (z8 KSW.out) (fun f=>f)).trans KSW.out;have q1wa:=z6 kswa 0;have qfwa:=Q8 kswa 0;clear kbwa kswa)
       refine wpAnyIn_ready (rs:=[10]) (by kernel_rfl) (by simp) ?_;refine AllReadyIn.cons rfl (fun K hK=>?_) ?_
       ·go_simp
        gi_wp2_with (refine⟨trivial,?_⟩;gi_at_call 91;refine(callsIn_wide.2 (HAND.out _ _ _ hxa HWA.out)).mono ?_;rintro e wc ⟨b3,n3,c3',rfl,hxc,hwc⟩;have HWC:=q8 hwc;clear hwc;have kbwc:=(hxc.block _ (z8 KBW.out) (fun f=>f)).trans KBW.out;have q0wc:=z6 kbwc 0;have kswc:=(hxc.block _ (z8 KSW.out) (fun f=>f)).trans KSW.out;have q1wc:=z6 kswc 0;have qfwc:=Q8 kswc 0;clear kbwc kswc)
        refine wpAnyIn_ready (rs:=[11]) (by kernel_rfl) (by simp) ?_;refine AllReadyIn.cons rfl (fun K hK=>?_) ?_
        ·go_simp
         refine hK _ _ ?_;clear hK K;refine wpAnyIn_done (by kernel_rfl) ?_ _;exact HQ.out _ _ _ _ _ hxc HWC.out
        exact AllReadyIn.nil
       exact AllReadyIn.nil
      exact AllReadyIn.nil
     exact AllReadyIn.nil
    refine AllReadyIn.cons rfl (fun K hK=>?_) ?_
    ·go_simp
     refine hK _ _ ?_;clear hK K;refine wpAnyIn_ready (rs:=[0,9]) (by kernel_rfl) (by simp) ?_;refine AllReadyIn.cons rfl (fun K hK=>?_) ?_
     ·go_simp
      refine hK _ _ ?_;clear hK K;refine wpAnyIn_ready (rs:=[9]) (by kernel_rfl) (by simp) ?_;refine AllReadyIn.cons rfl (fun K hK=>?_) ?_
      ·go_simp
       gi_wp2_with (refine⟨trivial,?_⟩;gi_at_call 178;refine(callsIn_wide.2 (HWH.out _ hd)).mono ?_;rintro e wa ⟨b2,v2,rfl,hxa,hxa2,hwa⟩;have HWA:=q8 hwa;clear hwa hxa2;have kbwa:=(hxa.block _ (z8 KBW.out) (fun f=>f)).trans KBW.out;have q0wa:=z6 kbwa 0;have kswa:=(hxa.block _ (z8 KSW.out) (fun f=>f)).trans KSW.out;have q1wa:=z6 kswa 0;have qfwa:=Q8 kswa 0;clear kbwa kswa)
       refine wpAnyIn_ready (rs:=[10]) (by kernel_rfl) (by simp) ?_;refine AllReadyIn.cons rfl (fun K hK=>?_) ?_
       ·go_simp
        gi_wp2_with (refine⟨trivial,?_⟩;gi_at_call 91;refine(callsIn_wide.2 (HAND.out _ _ _ hxa HWA.out)).mono ?_;rintro e wc ⟨b3,n3,c3',rfl,hxc,hwc⟩;have HWC:=q8 hwc;clear hwc;have kbwc:=(hxc.block _ (z8 KBW.out) (fun f=>f)).trans KBW.out;have q0wc:=z6 kbwc 0;have kswc:=(hxc.block _ (z8 KSW.out) (fun f=>f)).trans KSW.out;have q1wc:=z6 kswc 0;have qfwc:=Q8 kswc 0;clear kbwc kswc)
        refine wpAnyIn_ready (rs:=[11]) (by kernel_rfl) (by simp) ?_;refine AllReadyIn.cons rfl (fun K hK=>?_) ?_
        ·go_simp
         refine hK _ _ ?_;clear hK K;refine wpAnyIn_done (by kernel_rfl) ?_ _;exact HQ.out _ _ _ _ _ hxc HWC.out
        exact AllReadyIn.nil
       exact AllReadyIn.nil
      exact AllReadyIn.nil
     refine AllReadyIn.cons rfl (fun K hK=>?_) ?_
     ·go_simp
      gi_wp2_with (refine⟨trivial,?_⟩;gi_at_call 178;refine(callsIn_wide.2 (HWH.out _ hd)).mono ?_;rintro e wa ⟨b2,v2,rfl,hxa,hxa2,hwa⟩;have HWA:=q8 hwa;clear hwa hxa2;have kbwa:=(hxa.block _ (z8 KBW.out) (fun f=>f)).trans KBW.out;have q0wa:=z6 kbwa 0;have kswa:=(hxa.block _ (z8 KSW.out) (fun f=>f)).trans KSW.out;have q1wa:=z6 kswa 0;have qfwa:=Q8 kswa 0;clear kbwa kswa)
      refine wpAnyIn_ready (rs:=[0]) (by kernel_rfl) (by simp) ?_;refine AllReadyIn.cons rfl (fun K hK=>?_) ?_
      ·go_simp
       refine hK _ _ ?_;clear hK K;refine wpAnyIn_ready (rs:=[10]) (by kernel_rfl) (by simp) ?_;refine AllReadyIn.cons rfl (fun K hK=>?_) ?_
       ·go_simp
        gi_wp2_with (refine⟨trivial,?_⟩;gi_at_call 91;refine(callsIn_wide.2 (HAND.out _ _ _ hxa HWA.out)).mono ?_;rintro e wc ⟨b3,n3,c3',rfl,hxc,hwc⟩;have HWC:=q8 hwc;clear hwc;have kbwc:=(hxc.block _ (z8 KBW.out) (fun f=>f)).trans KBW.out;have q0wc:=z6 kbwc 0;have kswc:=(hxc.block _ (z8 KSW.out) (fun f=>f)).trans KSW.out;have q1wc:=z6 kswc 0;have qfwc:=Q8 kswc 0;clear kbwc kswc)
        refine wpAnyIn_ready (rs:=[11]) (by kernel_rfl) (by simp) ?_;refine AllReadyIn.cons rfl (fun K hK=>?_) ?_
        ·go_simp
         refine hK _ _ ?_;clear hK K;refine wpAnyIn_done (by kernel_rfl) ?_ _;exact HQ.out _ _ _ _ _ hxc HWC.out
        exact AllReadyIn.nil
       exact AllReadyIn.nil
      exact AllReadyIn.nil
     exact AllReadyIn.nil
    exact AllReadyIn.nil
   refine AllReadyIn.cons rfl (fun K hK=>?_) ?_
   ·go_simp
    refine hK _ _ ?_;clear hK K;refine wpAnyIn_ready (rs:=[0,1]) (by kernel_rfl) (by simp) ?_;refine AllReadyIn.cons rfl (fun K hK=>?_) ?_
    ·go_simp
     refine hK _ _ ?_;clear hK K;refine wpAnyIn_ready (rs:=[1]) (by kernel_rfl) (by simp) ?_;refine AllReadyIn.cons rfl (fun K hK=>?_) ?_
     ·go_simp
      refine hK _ _ ?_;clear hK K;refine wpAnyIn_ready (rs:=[9]) (by kernel_rfl) (by simp) ?_;refine AllReadyIn.cons rfl (fun K hK=>?_) ?_
      ·go_simp
       gi_wp2_with (refine⟨trivial,?_⟩;gi_at_call 178;refine(callsIn_wide.2 (HWH.out _ hd)).mono ?_;rintro e wa ⟨b2,v2,rfl,hxa,hxa2,hwa⟩;have HWA:=q8 hwa;clear hwa hxa2;have kbwa:=(hxa.block _ (z8 KBW.out) (fun f=>f)).trans KBW.out;have q0wa:=z6 kbwa 0;have kswa:=(hxa.block _ (z8 KSW.out) (fun f=>f)).trans KSW.out;have q1wa:=z6 kswa 0;have qfwa:=Q8 kswa 0;clear kbwa kswa)
       refine wpAnyIn_ready (rs:=[10]) (by kernel_rfl) (by simp) ?_;refine AllReadyIn.cons rfl (fun K hK=>?_) ?_
       ·go_simp
        gi_wp2_with (refine⟨trivial,?_⟩;gi_at_call 91;refine(callsIn_wide.2 (HAND.out _ _ _ hxa HWA.out)).mono ?_;rintro e wc ⟨b3,n3,c3',rfl,hxc,hwc⟩;have HWC:=q8 hwc;clear hwc;have kbwc:=(hxc.block _ (z8 KBW.out) (fun f=>f)).trans KBW.out;have q0wc:=z6 kbwc 0;have kswc:=(hxc.block _ (z8 KSW.out) (fun f=>f)).trans KSW.out;have q1wc:=z6 kswc 0;have qfwc:=Q8 kswc 0;clear kbwc kswc)
        refine wpAnyIn_ready (rs:=[11]) (by kernel_rfl) (by simp) ?_;refine AllReadyIn.cons rfl (fun K hK=>?_) ?_
        ·go_simp
         refine hK _ _ ?_;clear hK K;refine wpAnyIn_done (by kernel_rfl) ?_ _;exact HQ.out _ _ _ _ _ hxc HWC.out
        exact AllReadyIn.nil
       exact AllReadyIn.nil
      exact AllReadyIn.nil
     exact AllReadyIn.nil
    refine AllReadyIn.cons rfl (fun K hK=>?_) ?_
    ·go_simp
     refine hK _ _ ?_;clear hK K;refine wpAnyIn_ready (rs:=[0,9]) (by kernel_rfl) (by simp) ?_;refine AllReadyIn.cons rfl (fun K hK=>?_) ?_
     ·go_simp
      refine hK _ _ ?_;clear hK K;refine wpAnyIn_ready (rs:=[9]) (by kernel_rfl) (by simp) ?_;refine AllReadyIn.cons rfl (fun K hK=>?_) ?_
      ·go_simp
       gi_wp2_with (refine⟨trivial,?_⟩;gi_at_call 178;refine(callsIn_wide.2 (HWH.out _ hd)).mono ?_;rintro e wa ⟨b2,v2,rfl,hxa,hxa2,hwa⟩;have HWA:=q8 hwa;clear hwa hxa2;have kbwa:=(hxa.block _ (z8 KBW.out) (fun f=>f)).trans KBW.out;have q0wa:=z6 kbwa 0;have kswa:=(hxa.block _ (z8 KSW.out) (fun f=>f)).trans KSW.out;have q1wa:=z6 kswa 0;have qfwa:=Q8 kswa 0;clear kbwa kswa)
       refine wpAnyIn_ready (rs:=[10]) (by kernel_rfl) (by simp) ?_;refine AllReadyIn.cons rfl (fun K hK=>?_) ?_
       ·go_simp
        gi_wp2_with (refine⟨trivial,?_⟩;gi_at_call 91;refine(callsIn_wide.2 (HAND.out _ _ _ hxa HWA.out)).mono ?_;rintro e wc ⟨b3,n3,c3',rfl,hxc,hwc⟩;have HWC:=q8 hwc;clear hwc;have kbwc:=(hxc.block _ (z8 KBW.out) (fun f=>f)).trans KBW.out;have q0wc:=z6 kbwc 0;have kswc:=(hxc.block _ (z8 KSW.out) (fun f=>f)).trans KSW.out;have q1wc:=z6 kswc 0;have qfwc:=Q8 kswc 0;clear kbwc kswc)
        refine wpAnyIn_ready (rs:=[11]) (by kernel_rfl) (by simp) ?_;refine AllReadyIn.cons rfl (fun K hK=>?_) ?_
        ·go_simp
         refine hK _ _ ?_;clear hK K;refine wpAnyIn_done (by kernel_rfl) ?_ _;exact HQ.out _ _ _ _ _ hxc HWC.out
        exact AllReadyIn.nil
       exact AllReadyIn.nil
      exact AllReadyIn.nil
     refine AllReadyIn.cons rfl (fun K hK=>?_) ?_
     ·go_simp
      gi_wp2_with (refine⟨trivial,?_⟩;gi_at_call 178;refine(callsIn_wide.2 (HWH.out _ hd)).mono ?_;rintro e wa ⟨b2,v2,rfl,hxa,hxa2,hwa⟩;have HWA:=q8 hwa;clear hwa hxa2;have kbwa:=(hxa.block _ (z8 KBW.out) (fun f=>f)).trans KBW.out;have q0wa:=z6 kbwa 0;have kswa:=(hxa.block _ (z8 KSW.out) (fun f=>f)).trans KSW.out;have q1wa:=z6 kswa 0;have qfwa:=Q8 kswa 0;clear kbwa kswa)
      refine wpAnyIn_ready (rs:=[0]) (by kernel_rfl) (by simp) ?_;refine AllReadyIn.cons rfl (fun K hK=>?_) ?_
      ·go_simp
       refine hK _ _ ?_;clear hK K;refine wpAnyIn_ready (rs:=[10]) (by kernel_rfl) (by simp) ?_;refine AllReadyIn.cons rfl (fun K hK=>?_) ?_
       ·go_simp
        gi_wp2_with (refine⟨trivial,?_⟩;gi_at_call 91;refine(callsIn_wide.2 (HAND.out _ _ _ hxa HWA.out)).mono ?_;rintro e wc ⟨b3,n3,c3',rfl,hxc,hwc⟩;have HWC:=q8 hwc;clear hwc;have kbwc:=(hxc.block _ (z8 KBW.out) (fun f=>f)).trans KBW.out;have q0wc:=z6 kbwc 0;have kswc:=(hxc.block _ (z8 KSW.out) (fun f=>f)).trans KSW.out;have q1wc:=z6 kswc 0;have qfwc:=Q8 kswc 0;clear kbwc kswc)
        refine wpAnyIn_ready (rs:=[11]) (by kernel_rfl) (by simp) ?_;refine AllReadyIn.cons rfl (fun K hK=>?_) ?_
        ·go_simp
         refine hK _ _ ?_;clear hK K;refine wpAnyIn_done (by kernel_rfl) ?_ _;exact HQ.out _ _ _ _ _ hxc HWC.out
        exact AllReadyIn.nil
       exact AllReadyIn.nil
      exact AllReadyIn.nil
     exact AllReadyIn.nil
    exact AllReadyIn.nil
   exact AllReadyIn.nil
  exact AllReadyIn.nil
 exact AllReadyIn.nil
end
end
section
open Go.RowKit Ar
attribute [local go_sem] Oper.semAt_some
def qm3(tr:List St)(pre:List Nat)(x:Nat):Prop:=∀ k∈pre,∀ s,tr[k]?=some s->x.testBit s.q=s.yes
theorem qm3.snoc{tr:List St}{pre:List Nat}{x k:Nat}{s:St}(hs:tr[k]?=some s):qm3 tr (pre++[k]) x↔qm3 tr pre x/\x.testBit s.q=s.yes:=by
 constructor
 ·intro h;exact⟨fun j hj=>h j (List.mem_append_left _ hj),h k (by simp) s hs⟩
 ·rintro⟨h1,h2⟩ j hj t ht;rcases List.mem_append.1 hj with e|e
  ·exact h1 j e t ht
  ·simp at e;subst e;rw[hs] at ht;cases ht;exact h2
structure ExI(sb n w0 bs p:Nat)(tr:List St)(w2:World)(pre:List Nat)(W:World):Prop where
 ext:q9 (fun k=>w0<=k) w2 W
 bx:W.heap[w0]?=some (.cells #[.pointer (some ⟨sb,0,none⟩)] 183)
 ex:∃ b nb cp l,W.heap[bs]?=some (.cells #[.slice (some ⟨b,0,none⟩) nb cp] 136)/\WS W b (.slice (some ⟨b,0,none⟩) nb cp) l/\¬b=p/\l.length=2^(n-6)/\∀ x,x<64*2^(n-6)->(Z9 l x=true↔qm3 tr pre x)
theorem ExI.turn{sb n w0 bs p q:Nat}{tr:List St}{w2 A B:World}{pre:List Nat}(h:ExI sb n w0 bs p tr w2 pre A)(hx:q9 (fun k=>k=q) A B)(h1:w0<=q)(h2:¬q=w0)(h3:¬q=bs)(h4:∀ cur,¬A.heap[q]?=some (.cells cur 195)\/q=p):ExI sb n w0 bs p tr w2 pre B:=by
 obtain⟨b,nb,cp,l,e1,e2,e3,e4,e5⟩:=h.ex;refine⟨h.ext.trans' hx (fun i _ e=>by show w0<=i;rw[e];exact h1),(hx.block _ (z8 h.bx) (fun e=>h2 e.symm)).trans h.bx,b,nb,cp,l,(hx.block _ (z8 e1) (fun e=>h3 e.symm)).trans e1,e2.ext hx (fun e=>?_),e3,e4,e5⟩;obtain⟨cur,hc⟩:=e2.blockT;rw[e] at hc;rcases h4 cur with q1|q1
 ·exact q1 hc
 ·exact e3 (e.trans q1)
section
variable{B:Nat}{w w':World}{sb hb g:Nat}{c:ThV}{TK:List Z3}{AK:List PA}{tw:List (Nat × Nat)}{tv lv:Value}{tr:List St}{As:List (PA × Bool)}{ls:List (List (BitVec 64))}{TT:List W9}
def cutL(f:List (BitVec 64)->List (BitVec 64))(ls:List (List (BitVec 64)))(j:Nat):List (List (BitVec 64)):=(ls.take j).map f++ls.drop j
theorem qm4(f:List (BitVec 64)->List (BitVec 64))(ls:List (List (BitVec 64)))(j:Nat):(cutL f ls j).length=ls.length:=by simp[cutL];omega
theorem qX2{f:List (BitVec 64)->List (BitVec 64)}{ls:List (List (BitVec 64))}{j:Nat}{l:List (BitVec 64)}(h:ls[j]?=some l):(cutL f ls j)[j]?=some l:=by have hj:=(List.getElem?_eq_some_iff.1 h).1;unfold cutL;rw[List.getElem?_append_right (by simp;omega)];simp[List.getElem?_drop,Nat.min_eq_left (Nat.le_of_lt hj),h]
theorem qX3{f:List (BitVec 64)->List (BitVec 64)}{ls:List (List (BitVec 64))}{j:Nat}{l:List (BitVec 64)}(h:ls[j]?=some l):(cutL f ls j).set j (f l)=cutL f ls (j+1):=by
 have hj:=(List.getElem?_eq_some_iff.1 h).1;have e:ls.drop j=l::ls.drop (j+1):=by rw[List.drop_eq_getElem_cons hj,(List.getElem?_eq_some_iff.1 h).2]
 unfold cutL;rw[zb2 h,List.map_append,e,List.set_append_right _ _ (by simp;omega)];simp[Nat.min_eq_left (Nat.le_of_lt hj)]
theorem qX4(f:List (BitVec 64)->List (BitVec 64))(ls:List (List (BitVec 64))):cutL f ls ls.length=ls.map f:=by simp[cutL]
def ExC(B:Nat)(w:World)(sb hb g:Nat)(c:ThV)(tv lv:Value)(TK:List Z3)(AK:List PA)(tw:List (Nat × Nat))(tr:List St)(As:List (PA × Bool))(ls:List (List (BitVec 64)))(TT:List W9)(m:M3)(e:Ending)(w':World):Prop :=
 ∃ r sm,e=.returned (.bool r)/\sm.length=2^(AK.length-6)/\(∀ x,x<64*2^(AK.length-6)->(Z9 sm x=true↔∀ k s,m.has k=true->tr[k]?=some s->x.testBit s.q=s.yes)) /\
  (r=true->∃ n l x c' tv' lv',n<ls.length/\ls[n]?=some l/\x<64*2^(AK.length-6)/\Z9 (V6 l (U3 sm)) x=true/\SrR B w' sb hb g c' TK AK tw tv' lv' (tr.take n) (As.take n) ((ls.map (fun l=>V6 l (U3 sm))).take (min n AK.length+1)) (TT.take (n+1))/\Mv sb hb g c tv lv g c' tv' lv' w w') /\
  (r=false->(∀ l∈ls,∀ x,x<64*2^(AK.length-6)->Z9 (V6 l (U3 sm)) x=false)/\q9 (SrF sb hb g c tv lv) w w')
theorem qv3{m:M3}(h:SrR B w sb hb g c TK AK tw tv lv tr As ls TT)(hq:∀ k,m.has k=true->∃ s,tr[k]?=some s/\s.q<AK.length)(hA:AK.length<=16)(hlen:ls.length=min tr.length AK.length+1)(hAs:As.length=tr.length)(hTT:TT.length=tr.length+1)(htr:tr.length<=500):
  CallsIn Fence.wide 5 prog 136 #[.pointer (some ⟨sb,0,none⟩),m.val] w (ExC B w sb hb g c tv lv TK AK tw tr As ls TT m):=by
 obtain⟨W0,hW0⟩:∃ W0,(w.alloc (.cells #[.pointer (some ⟨sb,0,none⟩)] 183)).alloc (.cells #[.int .u64 m.a.toNat,.int .u64 m.b.toNat,.int .u64 m.c.toNat] 197)=W0:=⟨_,rfl⟩;have hxW0:q9 (fun _=>False) w W0:=by rw[<- hW0];exact((q9.refl _ w).alloc _).alloc _
 have k0:W0.heap[w.heap.size]?=some (.cells #[.pointer (some ⟨sb,0,none⟩)] 183):=by rw[<- hW0,heap_alloc_old _ _ (by simp)];exact heap_alloc_new w _
 have k1:W0.heap[w.heap.size+1]?=some (.cells #[.int .u64 m.a.toNat,.int .u64 m.b.toNat,.int .u64 m.c.toNat] 197):=by rw[<- hW0];have:=heap_alloc_new (w.alloc (.cells #[.pointer (some ⟨sb,0,none⟩)] 183)) (.cells #[.int .u64 m.a.toNat,.int .u64 m.b.toNat,.int .u64 m.c.toNat] 197);simpa using this
 have kb:=h.blk;have c1:=z6 kb 1;have hbl:=z8 kb;obtain⟨xs,hxs1,hxs2⟩:=qv0 m;have HAL:=q8 (zZ2 (w:=W0) AK.length hA);have H:=q8 h;have HWE:=q8 hW0;have HXW0:=q8 hxW0;have K0:=q8 k0;have K1:=q8 k1;unfold M3.val u64;clear h kb hW0 hxW0 k0 k1;refine callsIn_of_wp_marks func136 rfl trivial ?_ rfl;simp only[ntmps136,List.size_toArray,List.length_cons,List.length_nil,Nat.reduceAdd,Nat.reduceSub,Array.replicate_succ,Array.replicate_zero,List.push_toArray,List.append_toArray,List.nil_append,List.cons_append]
 gi_wp2
 rw[HWE.out];refine⟨trivial,(callsIn_wide.2 HAL.out).mono ?_⟩;rintro e w1 ⟨ba,va,rfl,hba,hx1,hWa⟩;obtain⟨ca,cura,hva,_,_⟩:=hWa.shape;subst hva;have hal:(zz4 (2^(AK.length-6))).length=2^(AK.length-6):=by simp[zz4,U3,zf3]
 obtain⟨na,hna⟩:∃ na,(zz4 (2^(AK.length-6))).length=na:=⟨_,rfl⟩;rw[hna] at hWa ⊢;clear hna;obtain⟨V1,hV1⟩:∃ V1,w1.alloc (.cells #[.slice (some ⟨ba,0,none⟩) na ca] 136)=V1:=⟨_,rfl⟩;have hxV1:q9 (fun _=>False) w1 V1:=by rw[<- hV1];exact(q9.refl _ w1).alloc _
 have k2:V1.heap[w1.heap.size]?=some (.cells #[.slice (some ⟨ba,0,none⟩) na ca] 136):=by rw[<- hV1];exact heap_alloc_new w1 _
 have hxw1:q9 (fun _=>False) W0 V1:=hx1.trans hxV1;have K0:=q8 ((hxw1.block _ (z8 K0.out) (fun f=>f)).trans K0.out);have k1':=(hx1.block _ (z8 K1.out) (fun f=>f)).trans K1.out;have hs1l:=z8 k1';have s0:=z6 k1' 0;have s1:=z6 k1' 1;have s2:=z6 k1' 2;have hWV:=hWa.ext hxV1 (fun f=>f);have HWV:=q8 hWV;have K2:=q8 k2;have HXV1:=q8 (HXW0.out.trans hxw1);have HVE:=q8 hV1;have hbv:ba<w1.heap.size:=hWa.lt;have hbg:w.heap.size+2<=ba:=by
  have:W0.heap.size=w.heap.size+2:=by rw[<- HWE.out];simp
  omega
 have hw1g:w.heap.size+2<=w1.heap.size:=by omega
 have HMA:=q8 (qc9 (w:=V1) m);unfold M3.val u64 at HMA;clear hWa hx1 hxV1 k2 hxw1 k1' hWV hV1 HAL
 gi_wp2
 rw[HVE.out];refine⟨trivial,(callsIn_wide.2 HMA.out).mono ?_⟩;rintro e w2 ⟨p,rfl,hpV,hx2,kp⟩;subst hpV;have hV1g:w1.heap.size<V1.heap.size:=by rw[<- HVE.out];simp
 have K0:=q8 ((hx2.block _ (z8 K0.out) (fun f=>f)).trans K0.out);have K2:=q8 ((hx2.block _ (z8 K2.out) (fun f=>f)).trans K2.out);have HWV:=q8 (HWV.out.ext hx2 (fun f=>f));have HX2:=q8 (HXV1.out.trans hx2);have hV1s:=HWV;clear HMA s0 s1 s2 hV1s
 gi_wp2
 have hIn:ExI sb AK.length w.heap.size w1.heap.size V1.heap.size tr w2 [] w2:=⟨q9.refl _ _,K0.out,ba,na,ca,_,K2.out,HWV.out,by omega,hal,fun x hx=>⟨fun _ k hk=>by simp at hk,fun _=>by unfold zz4;rw[zg4 (by rw[U6];exact hx),zq0];rfl⟩⟩;refine zS2 (n:=5) (by omega) (gf:=211) (lb:=#[.pointer (some ⟨V1.heap.size,0,none⟩)]) rfl (enters_of func211 (by kernel_rfl) rfl) (encs:=fun x:Nat=>#[.int .i64 (x:Int)]) (fun _=>rfl) (z8 kp) (qL7 hxs1 hxs2 kp 4 (by omega))
  (ExI sb AK.length w.heap.size w1.heap.size V1.heap.size tr w2) (fun pre A B hI hx=>hI.turn hx (by omega) (by omega) (by omega) (fun _=>.inr rfl)) ?hIl hIn (fun x => { tmps:=#[.pointer (some ⟨sb,0,none⟩),.agg #[.int .u64 ↑m.a.toNat,.int .u64 ↑m.b.toNat,.int .u64 ↑m.c.toNat],.pointer (some ⟨w.heap.size,0,none⟩),.pointer (some ⟨w.heap.size+1,0,none⟩),.bool false,.pointer (some ⟨w1.heap.size,0,none⟩),.int .i64 (x:Int),undef,undef,undef,undef,.pointer (some ⟨sb,0,none⟩),.pointer (some ⟨sb,0,none⟩),.pointer (some ⟨sb,1,none⟩),.int .i64 ↑AK.length,.slice (some ⟨ba,0,none⟩) na ca,.agg #[.int .u64 ↑m.a.toNat,.int .u64 ↑m.b.toNat,.int .u64 ↑m.c.toNat],.func (.func 211) #[] #[.pointer (some ⟨V1.heap.size,0,none⟩)],.int .i64 (x:Int),undef,undef,undef,undef,undef,undef,undef,undef,undef,undef,undef,undef,undef,undef,undef,undef,undef,undef,undef,undef,undef,undef,undef,undef,undef,undef,undef,undef,undef,undef,undef,undef,undef,undef,undef,undef,undef,undef,undef,undef,undef,undef,undef,undef,undef,undef,undef,undef,undef,undef,undef,undef,undef,undef,undef],defers:=[] }) ?assign ?body ?done
 case hIl=>
  intro pre A l o o' hI hl ho hc;refine hI.turn (zI9 A o') (by have:=z8 kp;omega) (fun e=>?_) (fun e=>?_) (fun cur=>.inl (fun e=>?_))
  ·subst e;have:=hI.bx;rw[ho] at this;cases this;simp[Obj.isCells] at hc
  ·subst e;obtain⟨_,_,_,_,e1,_⟩:=hI.ex;rw[ho] at e1;cases e1;simp[Obj.isCells] at hc
  ·rw[ho] at e;cases e;simp[Obj.isCells] at hc
 case assign=>
  intro l z W K hK
  gi_wp2
  exact hK
 case body=>
  intro l pre x W hI hpre;have hxm:m.has x=true:=(hxs2 x).2 (hpre.subset (by simp));obtain⟨t,ht,htq⟩:=hq x hxm;have hxW:q9 (fun _=>False) w W:=HX2.out.trans' hI.ext (fun i hi e=>by have:w.heap.size<=i:=e;omega);have hRW:=H.out.ext hxW;obtain⟨b,nb,cp,l',e1,e2,e3,e4,e5⟩:=hI.ex;have HFIN:Hid (∀ (wc:World) (b3 n3 c3:Nat),q9 (fun _=>False) W wc->W.heap.size<=b3/\WS wc b3 (.slice (some ⟨b3,0,none⟩) n3 c3) (V6 l' (X4 (2^(AK.length-6)) t.q t.yes))->KeepsOthers W (wc.setCell ⟨w1.heap.size,0,none⟩ (.slice (some ⟨b3,0,none⟩) n3 c3))/\(wc.setCell ⟨w1.heap.size,0,none⟩ (.slice (some ⟨b3,0,none⟩) n3 c3)).heap[V1.heap.size]?=W.heap[V1.heap.size]?/\ExI sb AK.length w.heap.size w1.heap.size V1.heap.size tr w2 (pre++[x]) (wc.setCell ⟨w1.heap.size,0,none⟩ (.slice (some ⟨b3,0,none⟩) n3 c3))):=by
   intro wc b3 n3 c3 hx ⟨hb3,hW3⟩;have hsz:=hI.ext.size;have hpl:=z8 kp;have hst:q9 (fun k=>k=w1.heap.size) wc (wc.setCell ⟨w1.heap.size,0,none⟩ (.slice (some ⟨b3,0,none⟩) n3 c3)):=(q9.refl (fun k=>k=w1.heap.size) wc).setCell (p:=⟨w1.heap.size,0,none⟩) (fun _=>rfl) _;have hbs:=(hx.block _ (z8 e1) (fun f=>f)).trans e1;refine⟨(KeepsOthers.of_ext hx).trans (KeepsOthers.setCell _ _ _),(j8 _ _ (by show ¬V1.heap.size=w1.heap.size;omega)).trans (hx.block _ (by omega) (fun f=>f)),⟨(hI.ext.trans' hx (fun _ _ f=>f.elim)).trans' hst (fun i _ e=>by have:i=w1.heap.size:=e;show w.heap.size<=i;omega),?_,b3,n3,c3,_,Y4 hbs 0 _,hW3.ext hst (fun e=>?_),by omega,by rw[zd2 (by rw[x8,e4]),e4],fun y hy=>?_⟩⟩
   ·exact(j8 _ _ (by show ¬w.heap.size=w1.heap.size;omega)).trans ((hx.block _ (z8 hI.bx) (fun f=>f)).trans hI.bx)
   ·obtain⟨cur,hc⟩:=hW3.blockT;rw[e] at hc;rw[hbs] at hc;simp at hc
   ·rw[zj0 (by rw[e4];exact hy) (by rw[x8,e4]),zs9 hy,Bool.and_eq_true,e5 y hy,qm3.snoc ht];simp
  refine wpIn_mono (qX5 rfl rfl hRW hA ht htq hI.bx e1 e2 e4 (Q:=fun _ B=>KeepsOthers W B/\B.heap[V1.heap.size]?=W.heap[V1.heap.size]?/\ExI sb AK.length w.heap.size w1.heap.size V1.heap.size tr w2 (pre++[x]) B) (fun _ wc b3 n3 c3 hx hw=>HFIN.out wc b3 n3 c3 hx hw) _ _ _ _ _ _ _ _ _ _ _ _ _ _ _ _ _ _ _ _ _ _ _ _ _ _ _ _ _ _ _ _ _ _ _ _ _ _ _ _ _ _ _ _ _ _ _ _ _ _ _ _ _ _ _ _ _ _ _ _ _ _ _ _ _ _ _ _ _ _ _) (fun e _ B hq=>by cases e<;>first|exact⟨rfl,hq⟩|exact hq.elim)
 case done=>
  intro D W hD hI hK;obtain⟨b,nb,cp,sm,e1,e2,e3,e4,e5⟩:=hI.ex;have hk1024:2^(AK.length-6)<=1024:=Nat.pow_le_pow_right (n:=2) (by decide) (by omega:AK.length-6<=10);have hxW:q9 (fun _=>False) w W:=HX2.out.trans' hI.ext (fun i hi e=>by have:w.heap.size<=i:=e;omega);have HSM:Hid (∀ x,x<64*2^(AK.length-6)->(Z9 sm x=true↔∀ k s,m.has k=true->tr[k]?=some s->x.testBit s.q=s.yes)):=fun x hx=>(e5 x hx).trans ⟨fun h k s hk hs=>h k ((hxs2 k).1 hk) s hs,fun h k hk s hs=>h k s ((hxs2 k).2 hk) hs⟩
  have HNOT:=q8 (zi7 e2 (by omega));have z1:=z6 e1 0;have HXW:=q8 hxW;have KS:=q8 hI.bx;have hDw:w.heap.size<=D:=by have:=z8 kp;have:=HX2.out.size;omega
  have HKD:=q8 hK;have hbl1:=z8 hI.bx;clear hI e1 e2 e3 e5 hxW hK
  gi_wp2
  refine⟨trivial,(callsIn_wide.2 HNOT.out).mono ?_⟩;rintro e w3 ⟨bn,vn,rfl,hbn,hx3,hWn⟩;have hR3:=H.out.ext (HXW.out.trans hx3);have ks3:=(hx3.block _ (z8 KS.out) (fun f=>f)).trans KS.out;have kd3:=(hx3.block _ (z8 HKD.out) (fun f=>f)).trans HKD.out;obtain⟨l0,hl0⟩:∃ l0,ls[0]?=some l0:=⟨_,List.getElem?_eq_getElem (by omega)⟩;obtain⟨gl,lc,_,_,hlv,_,_,_⟩:=hR3.lf.at_ hl0;have kb3:=hR3.blk;rw[hlv] at kb3;have y3:=z6 kb3 3;have y0:=z6 ks3 0;have hbl3:=z8 kb3;have HR3:=q8 hR3;have KS3:=q8 ks3;have KD3:=q8 kd3;have HX3:=q8 (HXW.out.trans hx3);have HWN:=q8 hWn;clear hx3 hR3 ks3 kd3 kb3 hWn z1 HNOT hl0;have HLEN:=q8 (And.intro hlen (And.intro hAs hTT));have hll:ls.length<=17:=by omega
  clear hlen hAs hTT
  gi_wp2
  gi_loopw [37] (fun i wr=>∃ j:Nat,j<=ls.length/\i=.int .i64 j/\SrR B wr sb hb g c TK AK tw tv lv tr As (cutL (fun l=>V6 l (U3 sm)) ls j) TT/\q9 (fun k=>lv.ownBlock=some k) w3 wr) (fun i _=>ls.length-(intOf i).toNat)
  case atStart=>exact⟨0,Nat.zero_le _,rfl,HR3.out,q9.refl _ _⟩
  case round=>
   obtain⟨j,hj,rfl,hRr,hxr⟩:=hrel;have HRR:=q8 hRr;have HXR:=q8 hxr;obtain⟨vs,hvo,_⟩:=HR3.out.lf.ex;have ks4:=(hxr.block _ (z8 KS3.out) (fun e=>Z7 hvo KS3.out (by decide) e)).trans KS3.out;have kbr:=hRr.blk;rw[hlv] at kbr;have r3:=z6 kbr 3;have r0:=z6 ks4 0;have hbr:=z8 kbr;have hbs:=z8 ks4;have hWnr:WS wr bn vn (U3 sm):=by obtain⟨cur,hc⟩:=HWN.out.blockT;exact HWN.out.ext hxr (fun e=>Z7 hvo hc (by decide) e)
   have KS4:=q8 ks4;have KBR:=q8 kbr;by_cases hlt:j<ls.length
   ·obtain⟨l,hlj⟩:∃ l,ls[j]?=some l:=⟨_,List.getElem?_eq_getElem hlt⟩;obtain⟨gl2,lc2,b2,v2,hlv2,hc2,hW2,hl2⟩:=hRr.lf.at_ (qX2 (f:=(fun l=>V6 l (U3 sm))) hlj);have hgg:gl2=gl:=by rw[hlv] at hlv2;simp at hlv2;exact hlv2.1.symm
    rw[hgg] at hc2;clear hgg;have hAN:Hid (∀ W',q9 (fun _=>False) wr W'->Calls prog 91 #[v2,vn] W' fun e w'=>∃ b3 n3 c3,e=.returned (.slice (some ⟨b3,0,none⟩) n3 c3)/\q9 (fun _=>False) wr w'/\WS w' b3 (.slice (some ⟨b3,0,none⟩) n3 c3) (V6 l (U3 sm))):=by intro W' hx;refine(zm9 (hW2.ext hx (fun f=>f)) (hWnr.ext hx (fun f=>f)) (by rw[O9,e4,hl2]) (by omega)).mono ?_;rintro e w' ⟨b3,v3,h4,h5,h6,h7⟩;obtain⟨cc,cur,q1,_⟩:=h7.shape;subst q1;exact⟨b3,_,cc,h4,hx.trans h6,h7⟩
    have HFIN:Hid (∀ (wc:World) (b3 n3 c3:Nat),q9 (fun _=>False) wr wc->WS wc b3 (.slice (some ⟨b3,0,none⟩) n3 c3) (V6 l (U3 sm))->SrR B (wc.setCell ⟨gl,j,none⟩ (.slice (some ⟨b3,0,none⟩) n3 c3)) sb hb g c TK AK tw tv lv tr As (cutL (fun l=>V6 l (U3 sm)) ls (j+1)) TT/\q9 (fun k=>lv.ownBlock=some k) w3 (wc.setCell ⟨gl,j,none⟩ (.slice (some ⟨b3,0,none⟩) n3 c3))):=by intro wc b3 n3 c3 hx hW3;obtain⟨q1,q2⟩:=(HRR.out.ext hx).setL (j:=j) (by rw[qm4];exact hlv) (by rw[qm4];exact hlt) hW3 (by rw[zd2 (by rw[O9,e4,hl2]),hl2]);rw[qX3 (f:=(fun l=>V6 l (U3 sm))) hlj] at q1;exact⟨q1,(HXR.out.trans (hx.mono (fun _ _ f=>f.elim))).trans q2⟩
    obtain⟨vs4,hvo4,_⟩:=HRR.out.lf.ex;have hgl4:Hid (∀ W',q9 (fun _=>False) wr W'->W'.frozen? ⟨gl,j,none⟩=false/\W'.cell? ⟨gl,j,none⟩=some v2):=by intro W' hx;obtain⟨cur,hcu⟩:=V4 hvo4 (show lv.ownBlock=some gl by rw[hlv];rfl);have hcu2:=(hx.block _ (z8 hcu) (fun f=>f)).trans hcu;refine⟨Q8 hcu2 j,?_⟩;rw[z6 hcu2 j,<- z6 hcu j];exact hc2
    have hd:q9 (fun _=>False) wr wr.drew:=(q9.refl _ wr).drew;clear hRr hxr hvo hvo4 ks4 kbr hWnr hlj hW2 hlv2
    gi_wp2
    refine qv2 ?_
    gi_region_with (refine⟨trivial,?_⟩;gi_at_call 91;refine(callsIn_wide.2 (hAN.out _ hd)).mono ?_;rintro e wc ⟨b3,n3,c3,rfl,hxc,hwc⟩;have HWC:=q8 hwc;clear hwc;have kb5:=(hxc.block _ (z8 KBR.out) (fun f=>f)).trans KBR.out;have t3:=z6 kb5 3;have ks5:=(hxc.block _ (z8 KS4.out) (fun f=>f)).trans KS4.out;have t0:=z6 ks5 0;have tf:=(hgl4.out _ hxc).1;have tc:=(hgl4.out _ hxc).2;clear kb5 ks5)
    all_goals
     have HXC:=q8 hxc;clear hxc;simp only[qX1]
     gi_wp2
     go_roundw
     case measure=>simp[intOf];omega
     case rel=>obtain⟨q1,q2⟩:=HFIN.out _ _ _ _ HXC.out HWC.out;exact⟨j+1,by omega,by go_num,q1,q2⟩
   ·have hjl:j=ls.length:=by omega
    subst hjl;rw[qX4] at hRr;have HR5:=q8 hRr;have KD5:Hid (wr.heap[D]?=some (.deferred (some []))):=(hxr.block _ (z8 KD3.out) (fun e=>by obtain⟨cur,hc⟩:=V4 hvo e;rw[KD3.out] at hc;simp at hc)).trans KD3.out;have HMV:Hid (Mv sb hb g c tv lv g c tv lv w wr):=(Mv.quiet HX3.out).trans ⟨hxr.mono (fun k _ e=>.inr (.inr (.inr (.inr (.inr e))))),fun k e=>.inl e⟩;clear hRr hxr hvo ks4 kbr hWnr
    gi_wp2
    gi_loopw [10] (fun i wq=>∃ k:Nat,k<=ls.length/\i=.int .i64 ((k:Int)-1)/\q9 (fun _=>False) wr wq/\∀ n l,k<=n->ls[n]?=some l->∀ x,x<64*2^(AK.length-6)->Z9 (V6 l (U3 sm)) x=false) (fun i _=>(intOf i+1).toNat)
    case atStart=>exact⟨ls.length,Nat.le_refl _,rfl,q9.refl _ _,fun n l hn hl=>by rw[List.getElem?_eq_none hn] at hl;simp at hl⟩
    case round=>
     obtain⟨k,hk,rfl,hxq,hE⟩:=hrel;have HXQ:=q8 hxq;have HE:=q8 hE;have hR6:=HR5.out.ext hxq;have ks6:=(hxq.block _ (z8 KS4.out) (fun f=>f)).trans KS4.out;have kb6:=hR6.blk;rw[hlv] at kb6;have o3:=z6 kb6 3;have o0:=z6 ks6 0;have hb6:=z8 kb6;have hs6:=z8 ks6;have KD6:Hid (wr.heap[D]?=some (.deferred (some []))):=(hxq.block _ (z8 KD5.out) (fun f=>f)).trans KD5.out;have HMV6:=q8 (HMV.out.trans (Mv.quiet hxq));have HR6:=q8 hR6;cases k with
     | zero=>
      have eN:((0:Nat):Int)-1 = -1:=rfl;rw[eN];clear hxq hE hR6 ks6 kb6
      gi_wp2
      refine⟨by simp,.inl ⟨_,_,rfl,run_takeDeferred KD6.out,?_⟩⟩;refine⟨.bool false,by simp[results,results136,go_sem],false,sm,rfl,e4,HSM.out,fun e=>by simp at e,fun _=>⟨fun l hl x hx=>?_,?_⟩⟩
      ·obtain⟨n,hn⟩:=List.getElem?_of_mem hl;exact HE.out n l (Nat.zero_le _) hn x hx
      ·exact HMV6.out.ext.trans' (zI9 _ _) (fun i hi e=>by have:i=D:=e;omega)
     | succ k=>
      have eN:((k+1:Nat):Int)-1=(k:Int):=by omega
      rw[eN];obtain⟨l,hlk⟩:∃ l,ls[k]?=some l:=⟨_,List.getElem?_eq_getElem (by omega)⟩;have hmk:(ls.map (fun l=>V6 l (U3 sm)))[k]?=some (V6 l (U3 sm)):=by rw[List.getElem?_map,hlk];rfl
      obtain⟨gl2,lc2,b2,v2,hlv2,hc2,hW2,hl2⟩:=hR6.lf.at_ hmk;have hgg:gl2=gl:=by rw[hlv] at hlv2;simp at hlv2;exact hlv2.1.symm
      rw[hgg] at hc2;have HEM:=q8 (zT8 hW2 (by omega));have HLE:=HLEN.out;have HLV:=q8 (zG8 hR6 (n:=k) (by omega) (by omega) (by omega) (by rw[List.length_map];omega) (by omega));have HLK:=q8 hlk;have HL2:=q8 hl2;have hkl:k<ls.length:=by omega
      clear hxq hE hR6 ks6 kb6 hlk hmk hlv2 hgg hW2 hl2 HLE
      gi_wp2
      refine⟨trivial,(callsIn_wide.2 HEM.out).mono ?_⟩;rintro e wz ⟨rfl,r,rfl,hr⟩;have HRE:=q8 hr;clear hr HEM;cases r with
      | true=>
       gi_wp2
       go_roundw
       case measure=>simp[intOf]
       case rel=>
        refine⟨k,by omega,by first|rfl|go_num,HXQ.out,fun n l' hn hl' x hx=>?_⟩;by_cases e:n=k
        ·subst e;rw[HLK.out] at hl';cases hl';have:=HRE.out.1 (by simp) x;rw[HL2.out] at this;exact this hx
        ·exact HE.out n l' (by omega) hl' x hx
      | false=>
       gi_wp2
       refine⟨trivial,(callsIn_wide.2 HLV.out).mono ?_⟩;rintro e w6 ⟨⟨vv,rfl⟩,hlc⟩;have HLC:=q8 hlc;clear hlc HLV
       gi_wp2
       obtain⟨c',tv',lv',q1,q2,q3⟩:=HLC.out;have kd6:w6.heap[D]?=some (.deferred (some [])):=by
        refine(q3.block D (z8 KD6.out) (fun e=>?_)).trans KD6.out;rcases e with e|e
        ·have:=HR6.out.blk;rw[<- e,KD6.out] at this;simp at this
        ·have:=HR6.out.th.blk;rw[<- e,KD6.out] at this;simp at this
       have hne:∃ x,x<64*2^(AK.length-6)/\Z9 (V6 l (U3 sm)) x=true:=by
        refine Classical.byContradiction fun hno=>?_
        have:=HRE.out.2 (fun x hx=>?_)
        ·simp at this
        ·rw[HL2.out] at hx;cases e:Z9 (V6 l (U3 sm)) x with
         | false=>rfl
         | true=>exact absurd ⟨x,hx,e⟩ hno
       obtain⟨x,hx,hhas⟩:=hne;have hM:=HMV6.out.trans q2;refine⟨by simp,.inl ⟨_,_,rfl,run_takeDeferred kd6,?_⟩⟩;refine⟨.bool true,by simp[results,results136,go_sem],true,sm,rfl,e4,HSM.out,fun _=>⟨k,l,x,c',tv',lv',hkl,HLK.out,hx,hhas,q1.aside0 (zI9 _ _) (fun j hj C t e=>?_),⟨hM.ext.trans' (zI9 _ _) (fun i hi e=>by have:i=D:=e;omega),hM.new⟩⟩,fun e=>by simp at e⟩;have hj':j=D:=hj;rw[hj',kd6] at e;simp at e
theorem qm5{m:M3}(h:SrR B w sb hb g c TK AK tw tv lv tr As ls TT)(hq:∀ k,m.has k=true->∃ s,tr[k]?=some s/\s.q<AK.length)(hA:AK.length<=16)(hlen:ls.length=min tr.length AK.length+1)(hAs:As.length=tr.length)(hTT:TT.length=tr.length+1)(htr:tr.length<=500):
  Calls prog 136 #[.pointer (some ⟨sb,0,none⟩),m.val] w (ExC B w sb hb g c tv lv TK AK tw tr As ls TT m) :=
 callsIn_wide.1 (qv3 h hq hA hlen hAs hTT htr)
end
end
end Go.Proofs.YtegbdaffhpiacaaGreatDoor
