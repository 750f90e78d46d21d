/- The program: Assert takes a formula, or nothing of it; Plain: what both sides of a stack of frames have in common; Plain: an atom's terms stand where it stands; The keys of a model: a function and the numbers that it is given; A session of the program, new; Declare. -/
import Derived.Test.YtegbdaffhpiacaaGreatDoorOwn22
import Derived.Test.YtegbdaffhpiacaaGreatDoorOwn15
import Derived.Test.YtegbdaffhpiacaaGreatDoorOwn19
import Derived.BigQuiet
namespace Go.Proofs.YtegbdaffhpiacaaGreatDoor
open Go.RowKit Go.Maps Ar
section
variable {w:World} {sb:Nat} {N:List Nm} {nv:Value} {xs:PX} {T A:List Nd} {Y:List (List Value)} {K:List Fr4}
set_option maxRecDepth 100000 in
set_option maxHeartbeats 16000000 in
theorem pa_take (s:ByteArray) {nd:Nd} {us:List Tk} (h:PSS w sb N nv xs T A Y K) (hs:s.size≤600) (hhd:HdLaid w) (hr:rdWhole N s.toList=.ok nd us) (hf:Y.length < 20) :
    Calls Tryz.prog 25 #[.pointer (some ⟨sb,0,none⟩),.string s] w fun e w'=>∃ T' A',AddsP T T' (subs true nd)∧AddsP A A' (subs false nd)∧e=.returned (.tuple #[.int .i64 0,.int .i64 (tkCode T'.length A'.length)]) ∧
      (tkCode T'.length A'.length=0→∃ cs,SPost w sb nv xs N T' A' (Y++[cs]) K w'∧TookF w sb A' cs nd w')∧(¬tkCode T'.length A'.length=0→SPost w sb nv xs N T A Y K w'):=by
  have HC:=hide (p_Formula s w hs h.ps.tab hhd)
  have HOK:=hide (whole_shape h.ok hr)
  have HFL:=hide (whole_ok hs hr).2
  obtain ⟨hfo,_⟩:=h.fown
  obtain ⟨fa,fc,e1⟩:=row_shape hfo
  have htf:=h.tfew
  have haf:=h.afew
  have kb:=h.p.ts.blk
  have c0:=cell_of_block kb 0
  have hsb:=block_lt kb
  have KB:=hide kb
  have H:=hide h
  have HR:=hide hr
  have HLT:=hide h.lt
  clear h hs hhd hr hfo kb
  go_enter Tryz.func25,Tryz.ntmps25
  go_wp2_with fail
  refine HC.out.mono ?_
  rintro en w1 ⟨hx1,hm⟩
  rw [HR.out] at hm
  obtain ⟨k',wd',v',pa',pn',pc',rfl,hpn⟩:=hm
  have kb1:=(hx1.block sb hsb (fun f=>f)).trans KB.out
  rw [e1] at kb1
  have c5:=cell_of_block kb1 5
  have hl1:=block_lt kb1
  have hne:¬sb=w1.heap.size:=by omega
  obtain ⟨V,hV⟩:∃ V,w1.alloc (.cells #[.int .i64 k',.string wd',.int .i64 v',.slice pa' pn' pc'] 115)=V:=⟨_,rfl⟩
  have hxV:Ext (fun _=>False) w V:=by rw [← hV];exact hx1.alloc _
  have hs1:=hx1.size
  have hVs:V.heap.size=w1.heap.size+1:=by rw [← hV];simp
  have hPV0:=H.out.ext hxV (fun _ _ f=>f)
  have hpnV0:PN V (fun k=>w.heap.size≤k∧k < w1.heap.size) [.int .i64 k',.string wd',.int .i64 v',.slice pa' pn' pc'] nd:=hpn.within.ext (by rw [← hV];exact (Ext.refl (fun _=>False) w1).alloc _) (fun _ _ _ f=>f)
  have HC2:Hid (∀ W,Ext (fun _=>False) V W→Calls Tryz.prog 48 #[.pointer (some ⟨sb,1,none⟩),.agg #[.int .i64 k',.string wd',.int .i64 v',.slice pa' pn' pc']] W (TkPost W sb nv xs T A nd)):=fun W hW =>
    ptake_any HOK.out HFL.out (hpnV0.ext hW (fun _ _ _ f=>f)) (fun k hk=>by have:=hW.size;omega) (fun k hk hp=>by have:=HLT.out k (.inl hp);omega) (hPV0.ext hW (fun _ _ f=>f)).p htf haf
  have HPV:=hide hPV0
  have HXV:=hide hxV
  have HV:=hide hV
  have kN:V.heap[w1.heap.size]?=some (.cells #[.int .i64 k',.string wd',.int .i64 v',.slice pa' pn' pc'] 115):=by rw [← hV];exact heap_alloc_new w1 _
  have m0:=cell_of_block kN 0
  have m1:=cell_of_block kN 1
  have m2:=cell_of_block kN 2
  have m3:=cell_of_block kN 3
  clear hx1 hxV hPV0 hpnV0 hV hpn kb1 kN c0
  go_wp2_with fail
  rw [HV.out]
  go_region_law (go_simp;go_wp2_with (go_at_call 48;first | (refine (HC2.out V.drew ((Ext.refl (fun _=>False) V).drew)).mono ?_;rintro e w2 ⟨T2,A2,hT2,hA2,rk,rw',ri,rpa,rpn,rpc,rfl,hft,hap⟩;have HFT:=hide hft;clear hft;have HT2:=hide hT2;have HA2:=hide hA2;have HXB:Hid (Ext (fun _=>False) V V.drew):=(Ext.refl (fun _=>False) V).drew;have HAP:=hide hap;clear hT2 hA2 hap) | (refine (HC2.out (V.alloc (.cells #[.int .i64 0,.string ⟨#[]⟩,.int .i64 0,.slice none 0 0] 112)).drew (((Ext.refl (fun _=>False) V).alloc _).drew)).mono ?_;rintro e w2 ⟨T2,A2,hT2,hA2,rk,rw',ri,rpa,rpn,rpc,rfl,hft,hap⟩;have HFT:=hide hft;clear hft;have HT2:=hide hT2;have HA2:=hide hA2;have kz:w2.heap[w1.heap.size+1]?=some (.cells #[.int .i64 0,.string ⟨#[]⟩,.int .i64 0,.slice none 0 0] 112):=zb_kept HLT.out (by omega) hVs hap;have KZ:=hide kz;have y0:=cell_of_block kz 0;have y1:=cell_of_block kz 1;have y2:=cell_of_block kz 2;have y3:=cell_of_block kz 3;have x0:=frozen_of_block kz 0;have x1:=frozen_of_block kz 1;have x2:=frozen_of_block kz 2;have x3:=frozen_of_block kz 3;have HXB:Hid (Ext (fun _=>False) V (V.alloc (.cells #[.int .i64 0,.string ⟨#[]⟩,.int .i64 0,.slice none 0 0] 112)).drew):=((Ext.refl (fun _=>False) V).alloc _).drew;have HAP:=hide hap;clear hT2 hA2 hap kz)))
  all_goals
    obtain ⟨cd,hcd⟩:∃ cd,tkCode T2.length A2.length=cd:=⟨_,rfl⟩
    have hap:=HAP.out
    rw [hcd] at hap
    rw [hcd]
    have HCD:=hide hcd
    have hTA:(if cd=0 then T2 else T).length≤12∧(if cd=0 then A2 else A).length≤16:=by
      by_cases h0:cd=0
      · rw [if_pos h0,if_pos h0]
        rw [h0] at hcd
        unfold tkCode at hcd
        by_cases h1:12 < T2.length
        · rw [if_pos h1] at hcd;exact absurd hcd (by decide)
        · rw [if_neg h1] at hcd
          by_cases h2:16 < A2.length
          · rw [if_pos h2] at hcd;exact absurd hcd (by decide)
          · omega
      · rw [if_neg h0,if_neg h0]
        exact ⟨htf,haf⟩
    obtain ⟨xs3,hP3,he5,he6,hG3⟩:=pss_pool (HPV.out.ext HXB.out (fun _ _ f=>f)) hap hTA.1 hTA.2
    have hGB:=Goes.of_ext (HXV.out.trans HXB.out) hG3
    have kb2:=hP3.p.ts.blk
    rw [he5,e1] at kb2
    have hl2:=block_lt kb2
    have hsz2:V.heap.size≤w2.heap.size:=Nat.le_trans HXB.out.size hG3.1.size
    have hne2:¬sb=w2.heap.size:=by omega
    have hne3:¬sb=w1.heap.size+1:=by omega
    have HP3:=hide hP3
    have HGB:=hide hGB
    have HG3:=hide hG3.2
    have KB2:=hide kb2
    clear hap hcd hTA hP3 hG3 hGB kb2
    first
      | (obtain ⟨W,hW⟩:∃ W,(((w2.setCell ⟨w1.heap.size+1,0,none⟩ (.int .i64 rk)).setCell ⟨w1.heap.size+1,1,none⟩ (.string rw')).setCell ⟨w1.heap.size+1,2,none⟩ (.int .i64 ri)).setCell ⟨w1.heap.size+1,3,none⟩ (.slice rpa rpn rpc)=W:=⟨_,rfl⟩
         have HWX:Hid (Ext (fun k=>k=w1.heap.size+1) w2 W):=by rw [← hW];exact (((((Ext.refl (fun k=>k=w1.heap.size+1) w2).setCell (p:=⟨w1.heap.size+1,0,none⟩) (fun _=>rfl) _).setCell (p:=⟨w1.heap.size+1,1,none⟩) (fun _=>rfl) _).setCell (p:=⟨w1.heap.size+1,2,none⟩) (fun _=>rfl) _).setCell (p:=⟨w1.heap.size+1,3,none⟩) (fun _=>rfl) _)
         have KT:Hid (W.heap[w1.heap.size+1]?=some (.cells #[.int .i64 rk,.string rw',.int .i64 ri,.slice rpa rpn rpc] 112)):=by rw [← hW];exact block_setCell (block_setCell (block_setCell (block_setCell KZ.out 0 _) 1 _) 2 _) 3 _
         have HPW:Hid (PSS W sb N nv xs3 (if cd=0 then T2 else T) (if cd=0 then A2 else A) Y K∧Goes w sb nv xs nv xs3 W):=by
           have hno:∀ k,SF sb nv xs3 k→¬k=w1.heap.size+1:=zb_free HLT.out hs1 hVs HG3.out
           exact ⟨HP3.out.ext HWX.out hno,HGB.out.1.trans' HWX.out (fun k hk e=>by omega),HGB.out.2⟩
         have HFW:Hid (cd=0→FT W (fun q=>w.heap.size≤q) A2 [.int .i64 rk,.string rw',.int .i64 ri,.slice rpa rpn rpc] nd):=fun e=>by
           have hsz:(V.alloc (.cells #[.int .i64 0,.string ⟨#[]⟩,.int .i64 0,.slice none 0 0] 112)).drew.heap.size=V.heap.size+1:=by show (V.alloc _).heap.size=_;simp
           exact ((HFT.out (HCD.out.trans e)).ext HWX.out (fun q _ hd e=>by omega)).mono (fun q _ hd=>by omega)
         rw [hW]
         clear hW)
      | (obtain ⟨W,hW⟩:∃ W,w2.alloc (.cells #[.int .i64 rk,.string rw',.int .i64 ri,.slice rpa rpn rpc] 112)=W:=⟨_,rfl⟩
         have HWX:Hid (Ext (fun _=>False) w2 W):=by rw [← hW];exact (Ext.refl _ w2).alloc _
         have KT:Hid (W.heap[w2.heap.size]?=some (.cells #[.int .i64 rk,.string rw',.int .i64 ri,.slice rpa rpn rpc] 112)):=by rw [← hW];exact heap_alloc_new w2 _
         have HPW:Hid (PSS W sb N nv xs3 (if cd=0 then T2 else T) (if cd=0 then A2 else A) Y K∧Goes w sb nv xs nv xs3 W):=⟨HP3.out.ext HWX.out (fun _ _ f=>f),HGB.out.ext HWX.out⟩
         have HFW:Hid (cd=0→FT W (fun q=>w.heap.size≤q) A2 [.int .i64 rk,.string rw',.int .i64 ri,.slice rpa rpn rpc] nd):=fun e=>by
           have hsz:V.heap.size≤V.drew.heap.size:=Nat.le_refl _
           exact ((HFT.out (HCD.out.trans e)).ext HWX.out (fun _ _ _ f=>f)).mono (fun q _ hd=>by omega)
         rw [hW]
         clear hW)
    by_cases hc0:cd=0
    · subst hc0
      have hpw:=HPW.out
      rw [if_pos rfl,if_pos rfl] at hpw
      have HPW2:=hide hpw
      have kbW:=hpw.1.p.ts.blk
      obtain ⟨hfoW,_⟩:=hpw.1.fown
      have hzl:=hfoW.1
      rw [he5,e1] at kbW hfoW
      have w5:=cell_of_block kbW 5
      have hlW:=block_lt kbW
      have hneW:¬sb=W.heap.size:=by omega
      have t0:=cell_of_block KT.out 0
      have t1:=cell_of_block KT.out 1
      have t2:=cell_of_block KT.out 2
      have t3:=cell_of_block KT.out 3
      have hlT:=block_lt KT.out
      have KBW:=hide kbW
      have HFO:=hide hfoW
      have HSB:Hid (∀ k,(Value.slice fa Y.length fc).ownBlock=some k→¬k=sb):=fun k hk e=>(hpw.1.f1 k (by rw [he5,e1];exact hk)).1 (.inl (.inl e))
      have HFB:Hid (∀ k,(Value.slice fa Y.length fc).ownBlock=some k→k < w.heap.size):=fun k hk=>HLT.out k (.inr (.inr (.inl (by rw [e1];exact hk))))
      obtain ⟨i0,hi,hz0,hz1,hz2⟩:=info_parts infoFml
      have hlt1:(Y.length:Int) < (Y.length:Int)+1:=by omega
      clear hpw kbW hfoW
      go_wp2_with fail
      go_region_law ((refine step_append_lies _ (by rfl) _ _ _ (by rfl) 0 112 i0 _ 4 56 Tryz.underlying89 hi hz0 hz1 hz2 rfl (by omega) (.slice fa Y.length fc) Y.length Y.flatten (by rfl) ((HFO.out.alloc _).drew) ⟨W.heap.size,0,none⟩ 1 1 [.int .i64 0,.string ⟨#[]⟩,.int .i64 0,.slice none 0 0] (by rfl) (by rfl) (World.news_of_block (cs:=#[.int .i64 0,.string ⟨#[]⟩,.int .i64 0,.slice none 0 0]) (t:=112) (fr:=(0,0)) (heap_alloc_new W _)) (by simp [Value.oneCell']) (by omega) (by unfold maxLen;omega) (by omega) (Nat.zero_le _) (W.heap.size+1) (by simp) ?_;intro g cap' w3 hown3 hgrow hat hlt3;have kb3:w3.heap[sb]?=some (.cells #[nv,xs3.ts,xs3.tm,xs3.at_,xs3.am,.slice fa Y.length fc,xs3.ks,xs3.vd,xs3.ml] 98):=(hgrow.block sb (by simp;omega) (fun e=>HSB.out sb e.symm rfl)).trans ((Below.heap_alloc W _ sb hlW).trans KBW.out);have d5:=cell_of_block kb3 5;have d5f:=frozen_of_block kb3 5;have kt3:=(hgrow.block _ (by simp;omega) (fun e=>by have:=HFB.out _ e.symm;omega)).trans ((Below.heap_alloc W _ _ hlT).trans KT.out);have q0:=cell_of_block kt3 0;have q1:=cell_of_block kt3 1;have q2:=cell_of_block kt3 2;have q3:=cell_of_block kt3 3;obtain ⟨u0,u1,u2,u3⟩:=row_at hown3 (by omega);have hrc:=row_cell hown3;have p0:=(hrc (Y.length * 4) (by omega)).2;have p1:=(hrc (Y.length * 4+1) (by omega)).2;have p2:=(hrc (Y.length * 4+2) (by omega)).2;have p3:=(hrc (Y.length * 4+3) (by omega)).2;have hgs:¬g=sb:=fun e=>hat.elim (fun e2=>HSB.out g e2 e) (fun e2=>(by omega));have hgs2:¬sb=g:=fun e=>hgs e.symm;clear hrc kt3))
      all_goals
        go_wp2_with fail
        have hgr:(W.alloc (.cells #[.int .i64 0,.string ⟨#[]⟩,.int .i64 0,.slice none 0 0] 112)).drew.grownBy w3 xs3.fs.ownBlock:=by rw [he5,e1];exact hgrow
        have hat2:xs3.fs.ownBlock=some g∨W.heap.size≤g:=by rw [he5,e1];exact hat.imp id (fun e=>by omega)
        have h0x:Ext (fun _=>False) W (W.alloc (.cells #[.int .i64 0,.string ⟨#[]⟩,.int .i64 0,.slice none 0 0] 112)).drew:=((Ext.refl _ W).alloc _).drew
        have hpp:=HPW2.out.1
        have hgg:=HPW2.out.2
        have hff:=HFW.out (by simp)
        have hfs:∀ k,xs3.fs.ownBlock=some k→k < w.heap.size:=by rw [he5,e1];exact HFB.out
        have hfA:=asrt_finA (.int .i64 rk) (.string rw') (.int .i64 ri) (.slice rpa rpn rpc) hpp hgg hf h0x hgr hat2 hown3 hgs2 kb3 hff hfs hsb
        have hfB:=asrt_finB (.int .i64 rk) (.string rw') (.int .i64 ri) (.slice rpa rpn rpc) hpp hgg hf h0x hgr hat2 hown3 hgs2 kb3 hff hfs hsb
        first
          | with_reducible refine (spost_forgetF hfA.1 hfA.2 hsb).mono ?_
          | with_reducible refine (spost_forgetF hfB.1 hfB.2 hsb).mono ?_
        rintro e w9 ⟨rfl,h9⟩
        have H9:=hide h9
        clear h9 hgr hat2 h0x hpp hgg hff hfs hfA hfB
        go_wp2_with fail
        go_ret2
        exact ⟨T2,A2,HT2.out,HA2.out,by rw [HCD.out];rfl,fun _=>⟨_,H9.out⟩,fun e=>absurd HCD.out e⟩
    · have hc0':(cd == 0)=false:=by simpa using hc0
      go_wp2_with fail
      go_ret2
      have hpw:=HPW.out
      rw [if_neg hc0,if_neg hc0] at hpw
      exact ⟨T2,A2,HT2.out,HA2.out,by rw [HCD.out];rfl,fun e=>absurd (HCD.out.symm.trans e) hc0,fun _=>⟨hpw.2.1,nv,xs3,hpw.1,hpw.2.2⟩⟩
end
end Go.Proofs.YtegbdaffhpiacaaGreatDoor

namespace Go.Proofs.YtegbdaffhpiacaaGreatDoor
open Ar
structure Once (t:Bool) (T:List Nd) (L:List (Nd × Int)):Prop where
 nd:T.Nodup
 mem:∀ x,x∈T↔∃ p∈L,x∈subs t p.1
structure Fit (N:List Nm) (L:List (Nd × Int)) (T A:List Nd) (F:Int) (k:Fr4):Prop where
 n:k.n≤N.length
 f:k.f≤L.length
 t:k.t≤T.length
 a:k.a≤A.length
 ns:N.take k.n=N.filter (fun x=>decide (x.fr < F))
 fs:L.take k.f=L.filter (fun x=>decide (x.2 < F))
 ts:Once true (T.take k.t) (L.take k.f)
 aw:Once false (A.take k.a) (L.take k.f)
def Fr4.le (j k:Fr4):Prop:=j.n≤k.n∧j.t≤k.t∧j.a≤k.a∧j.f≤k.f
structure Stk (N:List Nm) (L:List (Nd × Int)) (T A:List Nd) (K:List Fr4):Prop where
 ts:Once true T L
 aw:Once false A L
 ok:∀ p∈L,FmOk p.1
 nfr:∀ x∈N,x.fr≤K.length
 lfr:∀ p∈L,p.2≤K.length
 fit:∀ (j:Nat) (k:Fr4),K[j]?=some k→Fit N L T A ((j:Int)+1) k
 up:K.Pairwise Fr4.le
theorem Once.nil (t:Bool):Once t [] []:=⟨List.nodup_nil,fun x=>by simp⟩
theorem stk_new:Stk [] [] [] [] []:=⟨Once.nil _,Once.nil _,by simp,by simp,by simp,by simp,List.Pairwise.nil⟩
theorem filter_snoc_no {α:Type} {p : α→Bool} {l:List α} {x : α} (h:p x=false):(l++[x]).filter p=l.filter p:=by simp [h]
theorem take_snoc {α:Type} {l m:List α} {n:Nat} (h:n≤l.length):(l++m).take n=l.take n:=by
 rw [List.take_append_of_le_length h]
theorem lt_get {α:Type} {l:List α} {i:Nat} {x : α} (h:l[i]?=some x):i < l.length:=(List.getElem?_eq_some_iff.1 h).1
theorem Stk.name {N:List Nm} {L:List (Nd × Int)} {T A:List Nd} {K:List Fr4} (h:Stk N L T A K) (s:ByteArray) (a:Int):Stk (N++[⟨s,a,K.length⟩]) L T A K where
 ts:=h.ts
 aw:=h.aw
 ok:=h.ok
 nfr:=by
  intro x hx
  rcases List.mem_append.1 hx with hx | hx
  ·exact h.nfr x hx
  ·simp at hx;subst hx;exact Int.le_refl _
 lfr:=h.lfr
 fit:=by
  intro j k hk
  have hf:=h.fit j k hk
  have hj:=lt_get hk
  exact ⟨by have:=hf.n;simp;omega,hf.f,hf.t,hf.a,by rw [take_snoc hf.n,filter_snoc_no (by simp;omega)];exact hf.ns,hf.fs,hf.ts,hf.aw⟩
 up:=h.up
theorem Stk.decl {N:List Nm} {L:List (Nd × Int)} {T A:List Nd} {K:List Fr4} (h:Stk N L T A K) (s:ByteArray) (a:Int):Stk (declNames N K.length s a) L T A K:=by
 unfold declNames
 by_cases e:declCode N s.toList a=0
 ·rw [if_pos e];exact h.name s a
 ·rw [if_neg e];exact h
theorem filter_all {α:Type} {p : α→Bool} {l:List α} (h:∀ x∈l,p x=true):l.filter p=l:=List.filter_eq_self.2 h
theorem Stk.push {N:List Nm} {L:List (Nd × Int)} {T A:List Nd} {K:List Fr4} (h:Stk N L T A K):Stk N L T A (K++[⟨N.length,T.length,A.length,L.length⟩]) where
 ts:=h.ts
 aw:=h.aw
 ok:=h.ok
 nfr:=fun x hx=>by have:=h.nfr x hx;simp;omega
 lfr:=fun x hx=>by have:=h.lfr x hx;simp;omega
 fit:=by
  intro j k hk
  by_cases hj:j < K.length
  ·rw [List.getElem?_append_left hj] at hk
   exact h.fit j k hk
  ·have hl:=lt_get hk
   simp at hl
   have e:j=K.length:=by omega
   subst e
   simp at hk
   subst hk
   refine ⟨Nat.le_refl _,Nat.le_refl _,Nat.le_refl _,Nat.le_refl _,?_,?_,?_,?_⟩
   ·rw [List.take_length,filter_all (fun x hx=>by have:=h.nfr x hx;simp;omega)]
   ·rw [List.take_length,filter_all (fun x hx=>by have:=h.lfr x hx;simp;omega)]
   ·simp only [List.take_length];exact h.ts
   ·simp only [List.take_length];exact h.aw
 up:=by
  rw [List.pairwise_append]
  refine ⟨h.up,List.pairwise_singleton _ _,fun a ha b hb=>?_⟩
  simp at hb
  subst hb
  obtain ⟨j,hj,e⟩:=List.getElem_of_mem ha
  have hf:=h.fit j a (by rw [← e];exact List.getElem?_eq_getElem hj)
  exact ⟨hf.n,hf.t,hf.a,hf.f⟩
theorem Stk.pop {N:List Nm} {L:List (Nd × Int)} {T A:List Nd} {K:List Fr4} {k:Fr4} (h:Stk N L T A (K++[k])):Stk (N.take k.n) (L.take k.f) (T.take k.t) (A.take k.a) K∧N.take k.n=N.filter (fun x=>decide (x.fr < (K.length:Int)+1))∧L.take k.f=L.filter (fun x=>decide (x.2 < (K.length:Int)+1)):=by
 have hl:=h.fit K.length k (by simp)
 refine ⟨⟨hl.ts,hl.aw,fun p hp=>h.ok p (List.mem_of_mem_take hp),fun x hx=>?_,fun x hx=>?_,fun j q hq=>?_,(List.pairwise_append.1 h.up).1⟩,hl.ns,hl.fs⟩
 ·rw [hl.ns,List.mem_filter] at hx
  have:=hx.2
  simp at this
  omega
 ·rw [hl.fs,List.mem_filter] at hx
  have:=hx.2
  simp at this
  omega
 ·have hj:=lt_get hq
  have hf:=h.fit j q (by rw [List.getElem?_append_left hj];exact hq)
  have hle:Fr4.le q k:=(List.pairwise_append.1 h.up).2.2 q (List.mem_of_getElem? hq) k (by simp)
  obtain ⟨l1,l2,l3,l4⟩:=hle
  have en:(N.take k.n).take q.n=N.take q.n:=by rw [List.take_take,Nat.min_eq_left l1]
  have ef:(L.take k.f).take q.f=L.take q.f:=by rw [List.take_take,Nat.min_eq_left l4]
  have et:(T.take k.t).take q.t=T.take q.t:=by rw [List.take_take,Nat.min_eq_left l2]
  have ea:(A.take k.a).take q.a=A.take q.a:=by rw [List.take_take,Nat.min_eq_left l3]
  refine ⟨?_,?_,?_,?_,?_,?_,?_,?_⟩
  ·rw [List.length_take];have:=hl.n;omega
  ·rw [List.length_take];have:=hl.f;omega
  ·rw [List.length_take];have:=hl.t;omega
  ·rw [List.length_take];have:=hl.a;omega
  ·rw [en,hf.ns,hl.ns,List.filter_filter]
   refine List.filter_congr (fun x _=>?_)
   by_cases hx:x.fr < (j:Int)+1
   ·have:x.fr < (K.length:Int)+1:=by omega
    simp [hx,this]
   ·simp [hx]
  ·rw [ef,hf.fs,hl.fs,List.filter_filter]
   refine List.filter_congr (fun x _=>?_)
   by_cases hx:x.2 < (j:Int)+1
   ·have:x.2 < (K.length:Int)+1:=by omega
    simp [hx,this]
   ·simp [hx]
  ·rw [et,ef];exact hf.ts
  ·rw [ea,ef];exact hf.aw
theorem Once.snoc {t:Bool} {T T':List Nd} {L:List (Nd × Int)} {nd:Nd} {F:Int} (h:Once t T L) (hn:T'.Nodup) (ha:AddsP T T' (subs t nd)):Once t T' (L++[(nd,F)]):=by
 refine ⟨hn,fun x=>?_⟩
 rw [ha.mem,h.mem]
 constructor
 ·rintro (⟨p,hp,hx⟩ | hx)
  ·exact ⟨p,by simp [hp],hx⟩
  ·exact ⟨(nd,F),by simp,hx⟩
 ·rintro ⟨p,hp,hx⟩
  rcases List.mem_append.1 hp with hp | hp
  ·exact .inl ⟨p,hp,hx⟩
  ·simp at hp;subst hp;exact .inr hx
theorem take_pre {α:Type} {l m:List α} {n:Nat} (h:l <+: m) (hn:n≤l.length):m.take n=l.take n:=by
 obtain ⟨r,rfl⟩:=h
 exact take_snoc hn
theorem Stk.take {N:List Nm} {L:List (Nd × Int)} {T A T' A':List Nd} {K:List Fr4} {nd:Nd} (h:Stk N L T A K) (hok:FmOk nd) (hT:AddsP T T' (subs true nd)) (hA:AddsP A A' (subs false nd)) (hTn:T'.Nodup) (hAn:A'.Nodup):Stk N (L++[(nd,(K.length:Int))]) T' A' K where
 ts:=h.ts.snoc hTn hT
 aw:=h.aw.snoc hAn hA
 ok:=by
  intro p hp
  rcases List.mem_append.1 hp with hp | hp
  ·exact h.ok p hp
  ·simp at hp;subst hp;exact hok
 nfr:=h.nfr
 lfr:=by
  intro p hp
  rcases List.mem_append.1 hp with hp | hp
  ·exact h.lfr p hp
  ·simp at hp;subst hp;exact Int.le_refl _
 fit:=by
  intro j k hk
  have hf:=h.fit j k hk
  have hj:=lt_get hk
  have e1:(L++[(nd,(K.length:Int))]).take k.f=L.take k.f:=take_snoc hf.f
  refine ⟨hf.n,by have:=hf.f;simp;omega,Nat.le_trans hf.t hT.pre.length_le,Nat.le_trans hf.a hA.pre.length_le,hf.ns,?_,?_,?_⟩
  ·rw [e1,filter_snoc_no (by simp;omega)];exact hf.fs
  ·rw [e1,take_pre hT.pre hf.t];exact hf.ts
  ·rw [e1,take_pre hA.pre hf.a];exact hf.aw
 up:=h.up
theorem once_count {t:Bool} {T T':List Nd} {L:List (Nd × Int)} {nd:Nd} (h:Once t T L) (hok:∀ p∈L,FmOk p.1) (hnd:FmOk nd) (hn:T'.Nodup) (ha:AddsP T T' (subs t nd)):cnt t (L.map Prod.fst) nd=T'.length:=by
 unfold cnt
 have hm:∀ x,x∈T'↔x∈subsAll t (L.map Prod.fst++[nd]):=by
  intro x
  rw [(h.snoc (F:=0) hn ha).mem,mem_subsAll]
  constructor
  ·rintro ⟨p,hp,hx⟩
   rcases List.mem_append.1 hp with hp | hp
   ·exact ⟨p.1,by simp;exact .inl ⟨p.2,hp⟩,hx⟩
   ·simp at hp;subst hp;exact ⟨nd,by simp,hx⟩
  ·rintro ⟨q,hq,hx⟩
   rcases List.mem_append.1 hq with hq | hq
   ·obtain ⟨p,hp,rfl⟩:=List.mem_map.1 hq
    exact ⟨p,by simp [hp],hx⟩
   ·simp at hq;subst hq;exact ⟨(q,0),by simp,hx⟩
 have hall:∀ q∈L.map Prod.fst++[nd],FmOk q:=by
  intro q hq
  rcases List.mem_append.1 hq with hq | hq
  ·obtain ⟨p,hp,rfl⟩:=List.mem_map.1 hq
   exact hok p hp
  ·simp at hq;subst hq;exact hnd
 refine count_eq hn hm (fun x hx y hy e=>?_)
 obtain ⟨p,hp,hx⟩:=mem_subsAll.1 hx
 obtain ⟨q,hq,hy⟩:=mem_subsAll.1 hy
 have fp:=form_subs (hall p hp)
 have fq:=form_subs (hall q hq)
 cases t with
 | true=>exact term_form (fp.1 x hx) (fq.1 y hy) e
 | false=>exact atom_form (fp.2 x hx) (fq.2 y hy) e
theorem atom_ends {f:Nd} (h:FmOk f):∀ x∈subs false f,∀ p∈ends x,p∈subs true f:=by
 induction h with
 | truth _=>intro x hx;simp [subs,subsAll,isIt] at hx
 | con _ hp ih =>
  intro x hx p hpx
  simp only [subs] at hx ⊢
  rw [if_neg (by simp [isIt])] at hx
  rw [if_neg (by simp [isIt])]
  obtain ⟨q,hq,hx⟩:=mem_subsAll.1 (by simpa using hx)
  simpa using mem_subsAll.2 ⟨q,hq,ih q hq x hx p hpx⟩
 | two hw ha hb =>
  intro x hx p hpx
  simp [subs,subsAll,isIt,term_atoms ha,term_atoms hb] at hx
  subst hx
  simp [ends,parts] at hpx
  simp [subs,subsAll,isIt]
  rcases hpx with rfl | rfl
  ·exact .inl (term_self ha)
  ·exact .inr (term_self hb)
 | le hw ha hb h1 h2 =>
  intro x hx p hpx
  simp [subs,subsAll,isIt,term_atoms ha,term_atoms hb] at hx
  subst hx
  simp [ends,parts] at hpx
  simp [subs,subsAll,isIt]
  rcases hpx with rfl | rfl
  ·exact .inl (term_self ha)
  ·exact .inr (term_self hb)
theorem once_ac {T A:List Nd} {L:List (Nd × Int)} (hT:Once true T L) (hA:Once false A L) (hok:∀ p∈L,FmOk p.1):AC T A:=by
 intro x hx
 obtain ⟨q,hq,hs⟩:=(hA.mem x).1 hx
 exact ⟨(form_subs (hok q hq)).2 x hs,fun p hp=>(hT.mem p).2 ⟨q,hq,atom_ends (hok q hq) x hs p hp⟩⟩
theorem Stk.ac {N:List Nm} {L:List (Nd × Int)} {T A:List Nd} {K:List Fr4} {k:Fr4} (h:Stk N L T A (K++[k])):AC (T.take k.t) (A.take k.a):=by
 have hl:=h.fit K.length k (by simp)
 exact once_ac hl.ts hl.aw (fun p hp=>h.ok p (List.mem_of_mem_take hp))
theorem asOut_code {N:List Nm} {L:List (Nd × Int)} {T A T' A':List Nd} {K:List Fr4} {s:ByteArray} {nd:Nd} {us:List Tk} (h:Stk N L T A K) (hs:s.size≤600) (hr:rdWhole N s.toList=.ok nd us) (hok:FmOk nd) (hf:L.length < 20) (hT:AddsP T T' (subs true nd)) (hA:AddsP A A' (subs false nd)) (hTn:T'.Nodup) (hAn:A'.Nodup) :
  asOut N (L.map Prod.fst) s=(0,tkCode T'.length A'.length,if tkCode T'.length A'.length=0 then some nd else none):=by
 unfold asOut
 rw [if_neg (by omega),hr]
 simp only
 rw [if_neg (by simp;omega),once_count h.ts h.ok hok hTn hT,once_count h.aw h.ok hok hAn hA]
 unfold tkCode
 by_cases h1:12 < T'.length
 ·simp [h1]
 ·by_cases h2:16 < A'.length
  ·simp [h1,h2]
  ·simp [h1,h2]
theorem asOut_long {N:List Nm} {Q:List Nd} {s:ByteArray} (hs:600 < s.size):asOut N Q s=(0,1,none):=by
 unfold asOut
 rw [if_pos hs]
theorem asOut_no {N:List Nm} {Q:List Nd} {s:ByteArray} {e:Int} {p:Nat} (hs:s.size≤600) (hr:rdWhole N s.toList=.no e p):asOut N Q s=((p:Int),e,none):=by
 unfold asOut
 rw [if_neg (by omega),hr]
theorem asOut_full {N:List Nm} {Q:List Nd} {s:ByteArray} {nd:Nd} {us:List Tk} (hs:s.size≤600) (hr:rdWhole N s.toList=.ok nd us) (hf:20≤Q.length):asOut N Q s=(0,8,none):=by
 unfold asOut
 rw [if_neg (by omega),hr]
 simp only
 rw [if_pos hf]
end Go.Proofs.YtegbdaffhpiacaaGreatDoor

namespace Go.Proofs.YtegbdaffhpiacaaGreatDoor
open Go.RowKit Go.Maps Ar
structure CK where
 nm:ByteArray
 ar:Int
 a0:Int
 a1:Int
 a2:Int
def CK.cells (k:CK):List Value:=[.string k.nm,.int .i64 k.ar,.int .i64 k.a0,.int .i64 k.a1,.int .i64 k.a2]
def CK.val (k:CK):Value:=.agg #[.string k.nm,.int .i64 k.ar,.int .i64 k.a0,.int .i64 k.a1,.int .i64 k.a2]
structure CK.Ok (k:CK):Prop where
 nm:k.nm.size≤1000
 ar:Sm k.ar
 a0:Sm k.a0
 a1:Sm k.a1
 a2:Sm k.a2
theorem cCall:Tryz.prog.cellsOf 147=5:=by kernel_rfl
theorem lits_ck (d:Nat) {k:CK} (h:k.Ok):∃ ls,Tryz.prog.keyLits (d+3) 147 k.cells=some ls:=by
 unfold Program.keyLits
 simp [CK.cells,Tryz.underlying147,cCall,cFn,cA3,lits_fn d h.nm h.ar,lits_a3 d h.a0 h.a1 h.a2]
theorem key_ck {k:CK} (h:k.Ok):∃ l,keyOf Tryz.prog 147 k.val=some l:=by
 obtain ⟨d,hd⟩:=types_size
 obtain ⟨ls,hl⟩:=lits_ck d h
 refine ⟨.string (keyBytes ls),?_⟩
 have hc:k.val.cells.toList=k.cells:=rfl
 have hkt:Tryz.prog.keyType 147=true:=by kernel_rfl
 have hf:k.val.formed Tryz.prog 147=true:=by simp [CK.val,Value.formed,Tryz.underlying147,cCall]
 unfold keyOf
 rw [Tryz.underlying147]
 simp only [hkt,hf,Bool.and_self,if_true,hc,hd,hl,Option.map_some]
theorem kdCall:Keyed Tryz.prog 147:=Keyed.of_law (deep_law_laid (by kernel_rfl) (m:=4) (by omega) (of_decide_eq_true (by kernel_rfl)) (by kernel_rfl) (by kernel_rfl))
noncomputable def klC (k:CK):Lit:=(keyOf Tryz.prog 147 k.val).getD (.bool false)
theorem klC_eq {k:CK} (h:k.Ok):keyOf Tryz.prog 147 k.val=some (klC k):=by
 obtain ⟨l,hl⟩:=key_ck h
 rw [klC,hl];rfl
theorem klC_inj {x y:CK} (hx:x.Ok) (hy:y.Ok) (h:klC x=klC y):x=y:=by
 have h2:=klC_eq hy
 rw [← h] at h2
 have e:=kdCall.inj (klC_eq hx) h2
 cases x;cases y
 simp [CK.val] at e
 simp [e]
def ckTo (x:TKey) (u:Nat→Int) (j:Nat):CK:=⟨x.nm,x.ar,if 0 < j then u x.a0.toNat else 0,if 1 < j then u x.a1.toNat else 0,if 2 < j then u x.a2.toNat else 0⟩
def ckOf (x:TKey) (u:Nat→Int):CK:=ckTo x u x.ar.toNat
structure MdF (TK:List TKey) (u:Nat→Int) (j:Nat) (D:DataW Unit):Prop where
 yes:∀ (i:Nat) (x:TKey),i < j→TK[i]?=some x→¬x.nm=⟨#[]⟩→(∀ z,D.atKey (klC (ckOf x u)) z=.lit (.int .i64 (u i)))∧Maps.has D (klC (ckOf x u))=true
 no:∀ k:CK,k.Ok→(∀ (i:Nat) (x:TKey),i < j→TK[i]?=some x→¬x.nm=⟨#[]⟩→¬ckOf x u=k)→Maps.has D (klC k)=false
structure MdOk (TK:List TKey) (u:Nat→Int):Prop where
 ok:∀ x∈TK,(ckOf x u).Ok
 same:∀ (i j:Nat) (x y:TKey),TK[i]?=some x→TK[j]?=some y→¬x.nm=⟨#[]⟩→¬y.nm=⟨#[]⟩→ckOf x u=ckOf y u→u i=u j
 ar:∀ x∈TK,0≤x.ar∧x.ar≤3
 a0:∀ x∈TK,0 < x.ar→0≤x.a0∧x.a0 < TK.length
 a1:∀ x∈TK,1 < x.ar→0≤x.a1∧x.a1 < TK.length
 a2:∀ x∈TK,2 < x.ar→0≤x.a2∧x.a2 < TK.length
 sm:∀ i,i < TK.length→Sm (u i)
section
variable {TK:List TKey} {u:Nat→Int}
theorem mdf_nil:MdF TK u 0 (.map []):=⟨fun i _ h=>absurd h (Nat.not_lt_zero i),fun _ _ _=>rfl⟩
theorem MdF.skip {j:Nat} {x:TKey} {D:DataW Unit} (h:MdF TK u j D) (hx:TK[j]?=some x) (hn:x.nm=⟨#[]⟩):MdF TK u (j+1) D:=by
 refine ⟨fun i y hi hy hyn=>?_,fun k hk hno=>h.no k hk (fun i y hi=>hno i y (by omega))⟩
 by_cases e:i=j
 ·subst e
  rw [hx] at hy
  obtain rfl:x=y:=by simpa using hy
  exact absurd hn hyn
 ·exact h.yes i y (by omega) hy hyn
set_option maxRecDepth 100000 in
theorem MdF.put {j:Nat} {x:TKey} {D:DataW Unit} (h:MdF TK u j D) (hD:Maps.Tidy D) (ho:MdOk TK u) (hx:TK[j]?=some x) (hn:¬x.nm=⟨#[]⟩) (hk:WideAt.IsKeyLit (klC (ckOf x u))):MdF TK u (j+1) (D.put (klC (ckOf x u)) (.lit (.int .i64 (u j)))):=by
 have hxo:=ho.ok x (List.mem_of_getElem? hx)
 refine ⟨fun i y hi hy hyn=>?_,fun k hk' hno=>?_⟩
 ·by_cases e:ckOf y u=ckOf x u
  ·have hu:=ho.same i j y x hy hx hyn hn e
   rw [e,hu]
   generalize klC (ckOf x u)=q at hk ⊢
   exact ⟨fun z=>atKey_put_same hD.isMap hk _ z,has_put_same hD.isMap hk _⟩
  ·have hij:¬i=j:=by
    intro e2
    subst e2
    rw [hx] at hy
    obtain rfl:x=y:=by simpa using hy
    exact e rfl
   have hne:klC (ckOf y u) ≠ klC (ckOf x u):=fun e2=>e (klC_inj (ho.ok y (List.mem_of_getElem? hy)) hxo e2)
   obtain ⟨h1,h2⟩:=h.yes i y (by omega) hy hyn
   generalize klC (ckOf y u)=p at h1 h2 hne ⊢
   generalize klC (ckOf x u)=q at hne ⊢
   exact ⟨fun z=>by rw [atKey_put_other hne];exact h1 z,by rw [has_put_other hne];exact h2⟩
 ·have hne:klC k ≠ klC (ckOf x u):=fun e2=>hno j x (by omega) hx hn (klC_inj hk' hxo e2).symm
  have h3:=h.no k hk' (fun i y hi=>hno i y (by omega))
  generalize klC k=p at hne h3 ⊢
  generalize klC (ckOf x u)=q at hne ⊢
  rw [has_put_other hne]
  exact h3
end
theorem pf_new {ps k:Nat}:PF ps px0 k↔k=ps:=by
 constructor
 ·rintro ((e | e | e) | e | e)
  ·exact e
  all_goals exact absurd e (by simp [px0,Value.ownBlock,mapB])
 ·exact fun e=>.inl (.inl e)
theorem sf_new {ps k:Nat} {pv:Value}:SF ps pv px0 k↔k=ps∨pv.ownBlock=some k:=by
 constructor
 ·rintro (e | e | e | e)
  ·exact .inl (pf_new.1 e)
  ·exact .inr e
  all_goals exact absurd e (by simp [px0,Value.ownBlock])
 ·rintro (e | e)
  ·exact .inl (pf_new.2 e)
  ·exact .inr (.inl e)
theorem pss_new {w:World} {ps:Nat} {N:List Nm} {pv:Value} (h:PS w ps N pv px0):PSS w ps N pv px0 [] [] [] [] where
 p:=⟨⟨h.blk,⟨World.ownsRow_nil _ _ _ _,List.nodup_nil,by simp [keys],.inl ⟨rfl,rfl⟩,fun g hg=>absurd hg (by simp [px0,Value.ownBlock])⟩,by intro i x hx;simp at hx,List.nodup_nil,fun g hg=>absurd hg (by simp [px0,Value.ownBlock]),fun g hg=>absurd hg (by simp [px0,mapB])⟩,
  ⟨World.ownsRow_nil _ _ _ _,List.nodup_nil,by simp [keysA],.inl ⟨rfl,rfl⟩,fun g hg=>absurd hg (by simp [px0,Value.ownBlock])⟩,by intro x hx;simp at hx,List.nodup_nil,fun g hg=>absurd hg (by simp [px0,Value.ownBlock]),fun g hg=>absurd hg (by simp [px0,mapB]),fun k _=>by simp [px0,Value.ownBlock,mapB]⟩
 nown:=h.own
 few:=h.few
 ok:=h.ok
 fown:=⟨World.ownsRow_nil _ _ _ _,by simp⟩
 kown:=World.ownsRow_nil _ _ _ _
 ffew:=by simp
 kfew:=by simp
 tfew:=by simp
 afew:=by simp
 n1:=fun k hk=>⟨fun e=>h.sep k hk (pf_new.1 e),by simp [px0,Value.ownBlock],by simp [px0,Value.ownBlock]⟩
 f1:=fun k hk=>absurd hk (by simp [px0,Value.ownBlock])
 k1:=fun k hk=>absurd hk (by simp [px0,Value.ownBlock])
theorem decl_spost {w w':World} {ps:Nat} {N:List Nm} {T A:List Nd} {K:List Fr4} {pv:Value} {xs:PX} {F:Int} {s:ByteArray} {a:Int} {Y:List (List Value)} {e:Ending} (h:PSS w ps N pv xs T A Y K) (hd:PDeclG w ps N pv xs F s a e w'):e=.returned (.int .i64 (declCode N s.toList a))∧SPost w ps pv xs (declNames N F s a) T A Y K w':=by
 obtain ⟨h1,h2,nv',h3,h4⟩:=hd
 by_cases h0:declCode N s.toList a=0
 ·rw [if_pos h0] at h3
  obtain ⟨h5,h6⟩:=pss_names2 h h3.blk h3.own h3.few h3.ok h2 h4
  exact ⟨h1,h6.1,nv',xs.fg,h5,h6.2⟩
 ·rw [if_neg h0] at h3
  obtain ⟨h5,h6⟩:=pss_names2 h h3.blk h3.own h3.few h3.ok h2 h4
  exact ⟨h1,h6.1,nv',xs,h5,h6.2⟩
end Go.Proofs.YtegbdaffhpiacaaGreatDoor
