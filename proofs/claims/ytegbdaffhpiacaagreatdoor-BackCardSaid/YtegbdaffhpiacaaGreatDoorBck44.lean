/- The program: a model is made. -/
import Derived.Test.YtegbdaffhpiacaaGreatDoorBck41
import Derived.Test.YtegbdaffhpiacaaGreatDoorBck22
import Derived.Test.YtegbdaffhpiacaaGreatDoorBck32
namespace Go.Proofs.YtegbdaffhpiacaaGreatDoor
open Go.RowKit Go.Maps Ar
section
variable {w:World} {tv:Value} {TK:List Z0} {u:Nat->Int}
def MdW (w:World) (mb n:Nat) (TK:List Z0) (u:Nat->Int) (j:Nat):Prop :=
 ∃ D,w.ownsMap Tryz.prog 147 (plainElem Tryz.prog 3) mb n D/\Maps.Tidy D/\MdF TK u j D
theorem MdW.more {mb n m j:Nat} (h:MdW w mb n TK u j) (hn:n<=m):MdW w mb m TK u j:=by
 obtain ⟨D,⟨es,cl,hb,hf,hs,hD⟩,ht,hm⟩:=h
 exact ⟨D,⟨es,cl,hb,hf,Nat.le_trans hs hn,hD⟩,ht,hm⟩
theorem MdW.ext {S:Nat->Prop} {w':World} {mb n j:Nat} (h:MdW w mb n TK u j) (hx:q9 S w w') (hS:¬S mb):MdW w' mb n TK u j:=by
 obtain ⟨D,ho,ht,hm⟩:=h
 exact ⟨D,Z4 ho hx hS,ht,hm⟩
structure MS (w:World) (TK:List Z0) (u:Nat->Int) (j:Nat) (wr:World):Prop where
 ext:q9 (fun _=>False) w wr
 res:wr.heap[w.heap.size]?=some (.cells #[.map none] 94)
 mod:wr.heap[w.heap.size+1+1]?=some (.cells #[.map (some (w.heap.size+1))] 94)
 map:MdW wr (w.heap.size+1) j TK u j
theorem MS.start:MS w TK u 0 (((w.alloc (.cells #[.map none] 94)).alloc (.map #[] 0)).alloc (.cells #[.map (some (w.heap.size+1))] 94)):=by
 refine ⟨(((q9.refl _ w).alloc _).alloc _).alloc _,?_,?_,.map [],?_,tidy_empty,je3⟩
 ·rw [heap_alloc_old _ _ (by simp;omega),heap_alloc_old _ _ (by simp)];exact heap_alloc_new w _
 ·have e:=heap_alloc_new ((w.alloc (.cells #[.map none] 94)).alloc (.map #[] 0)) (.cells #[.map (some (w.heap.size+1))] 94)
  rw [zb1,zb1] at e
  exact e
 ·have e:=World.ownsMap_made (H:=Unit) (w.alloc (.cells #[.map none] 94)) Tryz.prog 147 (plainElem Tryz.prog 3)
  rw [zb1] at e
  exact Z4 e ((q9.refl (fun _=>False) _).alloc _) (fun f=>f)
set_option maxRecDepth 100000 in
set_option maxHeartbeats 1000000 in
theorem qI0 {na:Option Addr} {nc:Nat} (hts:w.ownsRow 0 145 6 tv TK.length (TK.flatMap Z0.cells)) (hnu:w.ownsRow 0 3 1 (.slice na TK.length nc) TK.length ((List.range TK.length).map fun i=>.int .i64 (u i))) (hT:TK.length<=12) (ho:jl6 TK u) :
  Calls Tryz.prog 38 #[tv,.slice na TK.length nc] w fun e w'=>∃ mb,e=.returned (.agg #[.map (some mb)])/\q9 (fun _=>False) w w'/\w.heap.size<=mb/\MdW w' mb TK.length TK u TK.length:=by
 obtain ⟨ta,tc,rfl⟩:=j9 hts
 have hmm:=@run_makeMap Tryz.prog
 have HTS:=q8 hts
 have HNU:=q8 hnu
 have HO:=q8 ho
 clear hts hnu ho
 go_enter Tryz.func38,Tryz.ntmps38
 go_wp2_with fail
 have HMS:Hid (MS w TK u 0 (((w.alloc (.cells #[.map none] 94)).alloc (.map #[] 0)).alloc (.cells #[.map (some (w.heap.size+1))] 94))):=MS.start
 go_loopw [14] (fun i wr=>∃ j:Nat,j<=TK.length/\i=.int .i64 j/\MS w TK u j wr) (fun i _=>TK.length - (intOf i).toNat)
 case atStart=>exact ⟨0,Nat.zero_le _,rfl,HMS.out⟩
 case round =>
  clear HMS
  obtain ⟨j,hj,rfl,hS⟩:=hrel
  have HS:=q8 hS
  clear hS
  by_cases hlt:j < TK.length
  ·obtain ⟨x,hxj⟩:∃ x,TK[j]?=some x:=⟨_,List.getElem?_eq_getElem hlt⟩
   obtain ⟨gt,rfl,hgl⟩:∃ gt,ta=some ⟨gt,0,none⟩/\gt < w.heap.size:=by
    rcases HTS.out.2 with ⟨e,e0⟩ | ⟨g',cap,cur,hv,_,hh,_⟩
    ·omega
    ·simp at hv;exact ⟨g',hv.1,z8 hh⟩
   obtain ⟨ng,rfl,hngl⟩:∃ gt,na=some ⟨gt,0,none⟩/\gt < w.heap.size:=by
    rcases HNU.out.2 with ⟨e,e0⟩ | ⟨g',cap,cur,hv,_,hh,_⟩
    ·omega
    ·simp at hv;exact ⟨g',hv.1,z8 hh⟩
   have ho:=z7 HTS.out HS.out.ext (fun _ _ f=>f)
   have x0:wr.cell? ⟨gt,j * 6,none⟩=some (.string x.nm):=(ho.cellAt (j * 6) (by omega)).trans (J4 hxj (j:=0) rfl)
   have x1:wr.cell? ⟨gt,j * 6+1,none⟩=some (.int .i64 x.ar):=(ho.cellAt (j * 6+1) (by omega)).trans (J4 hxj rfl)
   have x2:wr.cell? ⟨gt,j * 6+2,none⟩=some (.int .i64 x.a0):=(ho.cellAt (j * 6+2) (by omega)).trans (J4 hxj rfl)
   have x3:wr.cell? ⟨gt,j * 6+3,none⟩=some (.int .i64 x.a1):=(ho.cellAt (j * 6+3) (by omega)).trans (J4 hxj rfl)
   have x4:wr.cell? ⟨gt,j * 6+4,none⟩=some (.int .i64 x.a2):=(ho.cellAt (j * 6+4) (by omega)).trans (J4 hxj rfl)
   have x5:wr.cell? ⟨gt,j * 6+5,none⟩=some (.int .i64 x.v):=(ho.cellAt (j * 6+5) (by omega)).trans (J4 hxj rfl)
   have HXJ:=q8 hxj
   clear ho hxj
   go_wp2_with fail
   obtain ⟨V,hVe⟩:∃ V,wr.alloc (.cells #[.string x.nm,.int .i64 x.ar,.int .i64 x.a0,.int .i64 x.a1,.int .i64 x.a2,.int .i64 x.v] 145)=V:=⟨_,rfl⟩
   have HVX:Hid (q9 (fun _=>False) wr V):=by rw [<- hVe];exact (q9.refl _ wr).alloc _
   have KX:Hid (V.heap[wr.heap.size]?=some (.cells #[.string x.nm,.int .i64 x.ar,.int .i64 x.a0,.int .i64 x.a1,.int .i64 x.a2,.int .i64 x.v] 145)):=by rw [<- hVe];exact heap_alloc_new wr _
   rw [hVe]
   clear hVe x0 x1 x2 x3 x4 x5
   by_cases hnm:x.nm=⟨#[]⟩
   ·refine (zU3 (W:=V) hnm).mono ?_
    rintro e w5 ⟨rfl,hx5⟩
    have HX5:=q8 (HVX.out.trans hx5)
    have HNM:=q8 hnm
    clear hx5 hnm
    go_wp2_with fail
    go_roundw
    case measure=>simp [intOf];omega
    case rel =>
     have h:=HS.out
     have hx:=HX5.out
     obtain ⟨D,h1,h2,h3⟩:=h.map.more (Nat.le_succ j)
     exact ⟨j+1,by omega,by go_num,h.ext.trans hx,(hx.block _ (z8 h.res) (fun f=>f)).trans h.res,(hx.block _ (z8 h.mod) (fun f=>f)).trans h.mod,D,Z4 h1 hx (fun f=>f),h2,h3.skip HXJ.out HNM.out⟩
   ·refine (qj0 (W:=V) hnm).mono ?_
    rintro e w5 ⟨rfl,hx5⟩
    have HX5:=q8 (HVX.out.trans hx5)
    have HNM:=q8 hnm
    have k5:=(hx5.block _ (z8 KX.out) (fun f=>f)).trans KX.out
    have y0:=z6 k5 0
    have y1:=z6 k5 1
    have y2:=z6 k5 2
    have y3:=z6 k5 3
    have y4:=z6 k5 4
    have K5:=q8 k5
    have hkl:=z8 k5
    clear hx5 hnm k5
    go_wp2_with fail
    obtain ⟨W6,hW6⟩:∃ W6,w5.alloc (.cells #[.string x.nm,.int .i64 x.ar,.int .i64 0,.int .i64 0,.int .i64 0] 147)=W6:=⟨_,rfl⟩
    have HXW6:Hid (q9 (fun _=>False) w W6):=by rw [<- hW6];exact (HS.out.ext.trans HX5.out).alloc _
    have HX56:Hid (q9 (fun _=>False) wr W6):=by rw [<- hW6];exact HX5.out.alloc _
    have KP:Hid (W6.heap[w5.heap.size]?=some (.cells (zN6 x u 0).cells.toArray 147)):=by rw [<- hW6];exact heap_alloc_new w5 _
    have hW6s0:w5.heap.size<=W6.heap.size:=by rw [<- hW6];simp
    have KX6:Hid (W6.heap[wr.heap.size]?=some (.cells #[.string x.nm,.int .i64 x.ar,.int .i64 x.a0,.int .i64 x.a1,.int .i64 x.a2,.int .i64 x.v] 145)):=by rw [<- hW6,heap_alloc_old _ _ hkl];exact K5.out
    have HXM:=q8 (List.mem_of_getElem? HXJ.out)
    have hs5:wr.heap.size<=w5.heap.size:=HX5.out.size
    have HWL:Hid (w.heap.size<=wr.heap.size):=HS.out.ext.size
    obtain ⟨ar,har⟩:∃ ar:Nat,x.ar=ar:=⟨x.ar.toNat,by have:=(HO.out.ar x HXM.out).1;omega⟩
    have har3:ar<=3:=by have:=(HO.out.ar x HXM.out).2;omega
    obtain ⟨w4,hw4⟩:∃ w4,w4=wr:=⟨_,rfl⟩
    subst hw4
    rw [hW6]
    have HAR:=q8 har
    rw [har]
    clear hW6 y0 y1 y2 y3 y4
    go_loopw [27] (fun i wq=>∃ l:Nat,l<=ar/\i=.int .i64 l/\q9 (fun k=>k=w5.heap.size) W6 wq/\wq.heap[w5.heap.size]?=some (.cells (zN6 x u l).cells.toArray 147)) (fun i _=>ar - (intOf i).toNat)
    case atStart=>exact ⟨0,Nat.zero_le _,rfl,q9.refl _ _,KP.out⟩
    case round =>
     obtain ⟨l,hl,rfl,hx6,kp⟩:=hrel
     have hs6:=hx6.size
     by_cases hll:l < ar
     ·have hl3:l=0\/l=1\/l=2:=by omega
      rcases hl3 with rfl | rfl | rfl
      ·obtain ⟨a,ha⟩:∃ a:Nat,x.a0=a:=⟨x.a0.toNat,by have:=(HO.out.a0 x HXM.out (by omega)).1;omega⟩
       have hal:a < TK.length:=by have:=(HO.out.a0 x HXM.out (by omega)).2;omega
       have k5:=(hx6.block _ (Nat.lt_of_lt_of_le hkl hW6s0) (by omega)).trans KX6.out
       have y2:=z6 k5 2
       rw [ha] at y2
       have nq:=(z7 (z7 HNU.out HXW6.out (fun _ _ f=>f)) hx6 (fun k hk e=>by simp [Value.ownBlock] at hk;have:=HWL.out;omega)).cellAt a (by omega)
       rw [List.getElem?_map,List.getElem?_range (by omega)] at nq
       have p0:=z6 kp 2
       have pf:=Q0 kp 2
       have HKP:=q8 kp
       have HX6:=q8 hx6
       have HA:=q8 ha
       have hpl:=z8 kp
       clear kp hx6 k5 ha
       go_wp2_with fail
       go_roundw
       case measure=>simp [intOf];omega
       case rel =>
        refine ⟨1,by omega,by go_num,HX6.out.setCell (p:=⟨w5.heap.size,2,none⟩) (fun _=>rfl) _,?_⟩
        have e:=Y0 HKP.out 2 (.int .i64 (u a))
        refine e.trans ?_
        simp [zN6,CK.cells,HA.out]
      ·obtain ⟨a,ha⟩:∃ a:Nat,x.a1=a:=⟨x.a1.toNat,by have:=(HO.out.a1 x HXM.out (by omega)).1;omega⟩
       have hal:a < TK.length:=by have:=(HO.out.a1 x HXM.out (by omega)).2;omega
       have k5:=(hx6.block _ (Nat.lt_of_lt_of_le hkl hW6s0) (by omega)).trans KX6.out
       have y3:=z6 k5 3
       rw [ha] at y3
       have nq:=(z7 (z7 HNU.out HXW6.out (fun _ _ f=>f)) hx6 (fun k hk e=>by simp [Value.ownBlock] at hk;have:=HWL.out;omega)).cellAt a (by omega)
       rw [List.getElem?_map,List.getElem?_range (by omega)] at nq
       have p0:=z6 kp 3
       have pf:=Q0 kp 3
       have HKP:=q8 kp
       have HX6:=q8 hx6
       have HA:=q8 ha
       have hpl:=z8 kp
       clear kp hx6 k5 ha
       go_wp2_with fail
       go_roundw
       case measure=>simp [intOf];omega
       case rel =>
        refine ⟨2,by omega,by go_num,HX6.out.setCell (p:=⟨w5.heap.size,3,none⟩) (fun _=>rfl) _,?_⟩
        have e:=Y0 HKP.out 3 (.int .i64 (u a))
        refine e.trans ?_
        simp [zN6,CK.cells,HA.out]
      ·obtain ⟨a,ha⟩:∃ a:Nat,x.a2=a:=⟨x.a2.toNat,by have:=(HO.out.a2 x HXM.out (by omega)).1;omega⟩
       have hal:a < TK.length:=by have:=(HO.out.a2 x HXM.out (by omega)).2;omega
       have k5:=(hx6.block _ (Nat.lt_of_lt_of_le hkl hW6s0) (by omega)).trans KX6.out
       have y4:=z6 k5 4
       rw [ha] at y4
       have nq:=(z7 (z7 HNU.out HXW6.out (fun _ _ f=>f)) hx6 (fun k hk e=>by simp [Value.ownBlock] at hk;have:=HWL.out;omega)).cellAt a (by omega)
       rw [List.getElem?_map,List.getElem?_range (by omega)] at nq
       have p0:=z6 kp 4
       have pf:=Q0 kp 4
       have HKP:=q8 kp
       have HX6:=q8 hx6
       have HA:=q8 ha
       have hpl:=z8 kp
       clear kp hx6 k5 ha
       go_wp2_with fail
       go_roundw
       case measure=>simp [intOf];omega
       case rel =>
        refine ⟨3,by omega,by go_num,HX6.out.setCell (p:=⟨w5.heap.size,4,none⟩) (fun _=>rfl) _,?_⟩
        have e:=Y0 HKP.out 4 (.int .i64 (u a))
        refine e.trans ?_
        simp [zN6,CK.cells,HA.out]
     ·have hge:¬(l:Int) < (ar:Int):=by omega
      have hla:l=ar:=by omega
      have hck:zN6 x u l=zg7 x u:=by
       unfold zg7
       rw [HAR.out,hla]
       rfl
      rw [hck] at kp
      have hok:=HO.out.ok x HXM.out
      have hux:=HO.out.sm j hlt
      have hxe:q9 (fun k=>k=w5.heap.size) w4 wr:=(HX56.out.mono (fun _ _ f=>f.elim)).trans' hx6 (fun _ _ e=>e)
      have hms:=HS.out
      have kres:wr.heap[w.heap.size]?=some (.cells #[.map none] 94):=(hxe.block _ (z8 hms.res) (by have:=z8 hms.res;omega)).trans hms.res
      have kmod:wr.heap[w.heap.size+1+1]?=some (.cells #[.map (some (w.heap.size+1))] 94):=(hxe.block _ (z8 hms.mod) (by have:=z8 hms.mod;omega)).trans hms.mod
      obtain ⟨D,hD1,hD2,hD3⟩:=hms.map.ext hxe (by have:=z8 hms.mod;omega)
      have m0:=z6 kmod 0
      have q0:=z6 kp 0
      have q1:=z6 kp 1
      have q2:=z6 kp 2
      have q3:=z6 kp 3
      have q4:=z6 kp 4
      simp only [CK.cells] at q0 q1 q2 q3 q4
      have nq:=(z7 (z7 HNU.out HXW6.out (fun _ _ f=>f)) hx6 (fun k hk e=>by simp [Value.ownBlock] at hk;have:=HWL.out;omega)).cellAt j (by omega)
      rw [List.getElem?_map,List.getElem?_range (by omega)] at nq
      have hkey:=qr8 hok
      have hkl:WideAt.IsKeyLit (klC (zg7 x u)):=qr7.key hkey
      obtain ⟨W4,hst,how4,hturn⟩:=(Z4 hD1 ((q9.refl (fun _=>False) wr).drew) (fun f=>f)).store qr7 Tryz.underlying92 (by unfold maxLen;omega) hkey (plainElem_int Tryz.underlying3 (zQ8 hux))
      have hx7:q9 (fun k=>k=w.heap.size+1) wr W4:=(((q9.refl (fun _=>False) wr).drew).mono (fun _ _ f=>f.elim)).trans (O9 hturn)
      simp only [CK.val] at hst
      have HM7:Hid (MS w TK u (j+1) W4):=by
       refine ⟨(hms.ext.trans' hxe (fun k hk e=>by have:=HWL.out;omega)).trans' hx7 (fun k hk e=>by omega),(hx7.block _ (z8 kres) (by omega)).trans kres,(hx7.block _ (z8 kmod) (by omega)).trans kmod,_,how4,hD2.put hkl _,hD3.put hD2 HO.out HXJ.out HNM.out hkl⟩
      clear hD1 hD2 hD3 how4 hturn hx7 kres kmod hxe hms hx6 hkey hok hkl
      go_wp2_with fail
      go_region
      all_goals
       go_wp2_with fail
       go_roundw
       case measure=>simp [intOf];omega
       case rel=>exact ⟨j+1,by omega,by go_num,HM7.out⟩
  ·have hjn:j=TK.length:=by omega
   subst hjn
   have h:=HS.out
   have r0:=z6 h.res 0
   have rf:=Q0 h.res 0
   have m0:=z6 h.mod 0
   have hlr:=z8 h.res
   clear h
   go_wp2_with fail
   refine bodyPost_ret (v:=.agg #[.map (some (w.heap.size+1))]) (by simp [results,Tryz.results38,go_sem,r0]) rfl ?_
   have h:=HS.out
   have hx:q9 (fun k=>k=w.heap.size) wr (wr.setCell ⟨w.heap.size,0,none⟩ (.map (some (w.heap.size+1)))):=(q9.refl (fun k=>k=w.heap.size) wr).setCell (p:=⟨w.heap.size,0,none⟩) (fun _=>rfl) _
   exact ⟨w.heap.size+1,rfl,h.ext.trans' hx (fun k hk e=>by omega),by omega,h.map.ext hx (by omega)⟩
end
end Go.Proofs.YtegbdaffhpiacaaGreatDoor
