/- A part of the proof. -/
import Derived.Test.YtegbdaffhpiacaaGreatDoorMod32
import Derived.Test.YtegbdaffhpiacaaGreatDoorMod27
import Derived.Test.YtegbdaffhpiacaaGreatDoorMod30
set_option maxRecDepth 100000
set_option maxHeartbeats 1000000
namespace Go.Proofs.YtegbdaffhpiacaaGreatDoor
open Go.Proofs.Tryz hiding parts
open Go.RowKit Go.Maps Ar
section
variable{w:World}{tv:Value}{TK:List Z3}{u:Nat->Int}
def MdW(w:World)(mb n:Nat)(TK:List Z3)(u:Nat->Int)(j:Nat):Prop :=
 ∃ D,w.ownsMap prog 147 (plainElem prog 3) mb n D/\Maps.Tidy D/\MdF TK u j D
theorem MdW.more{mb n m j:Nat}(h:MdW w mb n TK u j)(hn:n<=m):MdW w mb m TK u j:=by obtain⟨D,⟨es,cl,hb,hf,hs,hD⟩,ht,hm⟩:=h;exact⟨D,⟨es,cl,hb,hf,Nat.le_trans hs hn,hD⟩,ht,hm⟩
theorem MdW.ext{S:Nat->Prop}{w':World}{mb n j:Nat}(h:MdW w mb n TK u j)(hx:q9 S w w')(hS:¬S mb):MdW w' mb n TK u j:=by obtain⟨D,ho,ht,hm⟩:=h;exact⟨D,Z6 ho hx hS,ht,hm⟩
structure MS(w:World)(TK:List Z3)(u:Nat->Int)(j:Nat)(wr:World):Prop where
 ext:q9 (fun _=>False) w wr
 res:wr.heap[w.heap.size]?=some (.cells #[.map none] 94)
 mod:wr.heap[w.heap.size+1+1]?=some (.cells #[.map (some (w.heap.size+1))] 94)
 map:MdW wr (w.heap.size+1) j TK u j
theorem MS.start:MS w TK u 0 (((w.alloc (.cells #[.map none] 94)).alloc (.map #[] 0)).alloc (.cells #[.map (some (w.heap.size+1))] 94)):=by
 refine⟨(((q9.refl _ w).alloc _).alloc _).alloc _,?_,?_,.map [],?_,tidy_empty,jk0⟩
 ·rw[heap_alloc_old _ _ (by simp;omega),heap_alloc_old _ _ (by simp)];exact heap_alloc_new w _
 ·have e:=heap_alloc_new ((w.alloc (.cells #[.map none] 94)).alloc (.map #[] 0)) (.cells #[.map (some (w.heap.size+1))] 94);rw[y8,y8] at e;exact e
 ·have e:=World.ownsMap_made (H:=Unit) (w.alloc (.cells #[.map none] 94)) prog 147 (plainElem prog 3);rw[y8] at e;exact Z6 e ((q9.refl (fun _=>False) _).alloc _) (fun f=>f)
theorem qM9{na:Option Addr}{nc:Nat}(hts:w.ownsRow 0 145 6 tv TK.length (TK.flatMap Z3.cells))(hnu:w.ownsRow 0 3 1 (.slice na TK.length nc) TK.length ((List.range TK.length).map fun i=>.int .i64 (u i)))(hT:TK.length<=12)(ho:jr5 TK u):
  Calls prog 38 #[tv,.slice na TK.length nc] w fun e w'=>∃ mb,e=.returned (.agg #[.map (some mb)])/\q9 (fun _=>False) w w'/\w.heap.size<=mb/\MdW w' mb TK.length TK u TK.length:=by
 obtain⟨ta,tc,rfl⟩:=Q0 hts;have hmm:=@run_makeMap prog;have HTS:=q8 hts;have HNU:=q8 hnu;have HO:=q8 ho;clear hts hnu ho;go_enter func38,ntmps38;go_wp2_with fail;have HMS:Hid (MS w TK u 0 (((w.alloc (.cells #[.map none] 94)).alloc (.map #[] 0)).alloc (.cells #[.map (some (w.heap.size+1))] 94))):=MS.start
 go_loopw [14] (fun i wr=>∃ j:Nat,j<=TK.length/\i=.int .i64 j/\MS w TK u j wr) (fun i _=>TK.length-(intOf i).toNat)
 case atStart=>exact⟨0,Nat.zero_le _,rfl,HMS.out⟩
 case round=>
  clear HMS;obtain⟨j,hj,rfl,hS⟩:=hrel;have HS:=q8 hS;clear hS;by_cases hlt:j<TK.length
  ·obtain⟨x,hxj⟩:∃ x,TK[j]?=some x:=⟨_,List.getElem?_eq_getElem hlt⟩;obtain⟨gt,rfl,hgl⟩:∃ gt,ta=some ⟨gt,0,none⟩/\gt<w.heap.size:=by
    rcases HTS.out.2 with⟨e,e0⟩|⟨g',cap,cur,hv,_,hh,_⟩
    ·omega
    ·simp at hv;exact⟨g',hv.1,z8 hh⟩
   obtain⟨ng,rfl,hngl⟩:∃ gt,na=some ⟨gt,0,none⟩/\gt<w.heap.size:=by
    rcases HNU.out.2 with⟨e,e0⟩|⟨g',cap,cur,hv,_,hh,_⟩
    ·omega
    ·simp at hv;exact⟨g',hv.1,z8 hh⟩
   have ho:=z7 HTS.out HS.out.ext (fun _ _ f=>f);have x0:wr.cell? ⟨gt,j*6,none⟩=some (.string x.nm):=(ho.cellAt (j*6) (by omega)).trans (J6 hxj (j:=0) rfl);have x1:wr.cell? ⟨gt,j*6+1,none⟩=some (.int .i64 x.ar):=(ho.cellAt (j*6+1) (by omega)).trans (J6 hxj rfl);have x2:wr.cell? ⟨gt,j*6+2,none⟩=some (.int .i64 x.a0):=(ho.cellAt (j*6+2) (by omega)).trans (J6 hxj rfl);have x3:wr.cell? ⟨gt,j*6+3,none⟩=some (.int .i64 x.a1):=(ho.cellAt (j*6+3) (by omega)).trans (J6 hxj rfl);have x4:wr.cell? ⟨gt,j*6+4,none⟩=some (.int .i64 x.a2):=(ho.cellAt (j*6+4) (by omega)).trans (J6 hxj rfl);have x5:wr.cell? ⟨gt,j*6+5,none⟩=some (.int .i64 x.v):=(ho.cellAt (j*6+5) (by omega)).trans (J6 hxj rfl);have HXJ:=q8 hxj;clear ho hxj;go_wp2_with fail;obtain⟨V,hVe⟩:∃ V,wr.alloc (.cells #[.string x.nm,.int .i64 x.ar,.int .i64 x.a0,.int .i64 x.a1,.int .i64 x.a2,.int .i64 x.v] 145)=V:=⟨_,rfl⟩;have HVX:Hid (q9 (fun _=>False) wr V):=by rw[<- hVe];exact(q9.refl _ wr).alloc _
   have KX:Hid (V.heap[wr.heap.size]?=some (.cells #[.string x.nm,.int .i64 x.ar,.int .i64 x.a0,.int .i64 x.a1,.int .i64 x.a2,.int .i64 x.v] 145)):=by rw[<- hVe];exact heap_alloc_new wr _
   rw[hVe];clear hVe x0 x1 x2 x3 x4 x5;by_cases hnm:x.nm=⟨#[]⟩
   ·refine(zX9 (W:=V) hnm).mono ?_;rintro e w5 ⟨rfl,hx5⟩;have HX5:=q8 (HVX.out.trans hx5);have HNM:=q8 hnm;clear hx5 hnm;go_wp2_with fail
    go_roundw
    case measure=>simp[intOf];omega
    case rel=>have h:=HS.out;have hx:=HX5.out;obtain⟨D,h1,h2,h3⟩:=h.map.more (Nat.le_succ j);exact⟨j+1,by omega,by go_num,h.ext.trans hx,(hx.block _ (z8 h.res) (fun f=>f)).trans h.res,(hx.block _ (z8 h.mod) (fun f=>f)).trans h.mod,D,Z6 h1 hx (fun f=>f),h2,h3.skip HXJ.out HNM.out⟩
   ·refine(qn2 (W:=V) hnm).mono ?_;rintro e w5 ⟨rfl,hx5⟩;have HX5:=q8 (HVX.out.trans hx5);have HNM:=q8 hnm;have k5:=(hx5.block _ (z8 KX.out) (fun f=>f)).trans KX.out;have y0:=z6 k5 0;have y1:=z6 k5 1;have y2:=z6 k5 2;have y3:=z6 k5 3;have y4:=z6 k5 4;have K5:=q8 k5;have hkl:=z8 k5;clear hx5 hnm k5;go_wp2_with fail;obtain⟨W6,hW6⟩:∃ W6,w5.alloc (.cells #[.string x.nm,.int .i64 x.ar,.int .i64 0,.int .i64 0,.int .i64 0] 147)=W6:=⟨_,rfl⟩;have HXW6:Hid (q9 (fun _=>False) w W6):=by rw[<- hW6];exact(HS.out.ext.trans HX5.out).alloc _
    have HX56:Hid (q9 (fun _=>False) wr W6):=by rw[<- hW6];exact HX5.out.alloc _
    have KP:Hid (W6.heap[w5.heap.size]?=some (.cells (zR1 x u 0).cells.toArray 147)):=by rw[<- hW6];exact heap_alloc_new w5 _
    have hW6s0:w5.heap.size<=W6.heap.size:=by rw[<- hW6];simp
    have KX6:Hid (W6.heap[wr.heap.size]?=some (.cells #[.string x.nm,.int .i64 x.ar,.int .i64 x.a0,.int .i64 x.a1,.int .i64 x.a2,.int .i64 x.v] 145)):=by rw[<- hW6,heap_alloc_old _ _ hkl];exact K5.out
    have HXM:=q8 (List.mem_of_getElem? HXJ.out);have hs5:wr.heap.size<=w5.heap.size:=HX5.out.size;have HWL:Hid (w.heap.size<=wr.heap.size):=HS.out.ext.size;obtain⟨ar,har⟩:∃ ar:Nat,x.ar=ar:=⟨x.ar.toNat,by have:=(HO.out.ar x HXM.out).1;omega⟩;have har3:ar<=3:=by have:=(HO.out.ar x HXM.out).2;omega
    obtain⟨w4,hw4⟩:∃ w4,w4=wr:=⟨_,rfl⟩;subst hw4;rw[hW6];have HAR:=q8 har;rw[har];clear hW6 y0 y1 y2 y3 y4
    go_loopw [27] (fun i wq=>∃ l:Nat,l<=ar/\i=.int .i64 l/\q9 (fun k=>k=w5.heap.size) W6 wq/\wq.heap[w5.heap.size]?=some (.cells (zR1 x u l).cells.toArray 147)) (fun i _=>ar-(intOf i).toNat)
    case atStart=>exact⟨0,Nat.zero_le _,rfl,q9.refl _ _,KP.out⟩
    case round=>
     obtain⟨l,hl,rfl,hx6,kp⟩:=hrel;have hs6:=hx6.size;by_cases hll:l<ar
     ·have hl3:l=0\/l=1\/l=2:=by omega
      rcases hl3 with rfl|rfl|rfl
      ·obtain⟨a,ha⟩:∃ a:Nat,x.a0=a:=⟨x.a0.toNat,by have:=(HO.out.a0 x HXM.out (by omega)).1;omega⟩;have hal:a<TK.length:=by have:=(HO.out.a0 x HXM.out (by omega)).2;omega
       have k5:=(hx6.block _ (Nat.lt_of_lt_of_le hkl hW6s0) (by omega)).trans KX6.out;have y2:=z6 k5 2;rw[ha] at y2;have nq:=(z7 (z7 HNU.out HXW6.out (fun _ _ f=>f)) hx6 (fun k hk e=>by simp[Value.ownBlock] at hk;have:=HWL.out;omega)).cellAt a (by omega);rw[List.getElem?_map,List.getElem?_range (by omega)] at nq;have p0:=z6 kp 2;have pf:=Q8 kp 2;have HKP:=q8 kp;have HX6:=q8 hx6;have HA:=q8 ha;have hpl:=z8 kp;clear kp hx6 k5 ha;go_wp2_with fail
       go_roundw
       case measure=>simp[intOf];omega
       case rel=>refine⟨1,by omega,by go_num,HX6.out.setCell (p:=⟨w5.heap.size,2,none⟩) (fun _=>rfl) _,?_⟩;have e:=Y4 HKP.out 2 (.int .i64 (u a));refine e.trans ?_;simp[zR1,CK.cells,HA.out]
      ·obtain⟨a,ha⟩:∃ a:Nat,x.a1=a:=⟨x.a1.toNat,by have:=(HO.out.a1 x HXM.out (by omega)).1;omega⟩;have hal:a<TK.length:=by have:=(HO.out.a1 x HXM.out (by omega)).2;omega
       have k5:=(hx6.block _ (Nat.lt_of_lt_of_le hkl hW6s0) (by omega)).trans KX6.out;have y3:=z6 k5 3;rw[ha] at y3;have nq:=(z7 (z7 HNU.out HXW6.out (fun _ _ f=>f)) hx6 (fun k hk e=>by simp[Value.ownBlock] at hk;have:=HWL.out;omega)).cellAt a (by omega);rw[List.getElem?_map,List.getElem?_range (by omega)] at nq;have p0:=z6 kp 3;have pf:=Q8 kp 3;have HKP:=q8 kp;have HX6:=q8 hx6;have HA:=q8 ha;have hpl:=z8 kp;clear kp hx6 k5 ha;go_wp2_with fail
       go_roundw
       case measure=>simp[intOf];omega
       case rel=>refine⟨2,by omega,by go_num,HX6.out.setCell (p:=⟨w5.heap.size,3,none⟩) (fun _=>rfl) _,?_⟩;have e:=Y4 HKP.out 3 (.int .i64 (u a));refine e.trans ?_;simp[zR1,CK.cells,HA.out]
      ·obtain⟨a,ha⟩:∃ a:Nat,x.a2=a:=⟨x.a2.toNat,by have:=(HO.out.a2 x HXM.out (by omega)).1;omega⟩;have hal:a<TK.length:=by have:=(HO.out.a2 x HXM.out (by omega)).2;omega
       have k5:=(hx6.block _ (Nat.lt_of_lt_of_le hkl hW6s0) (by omega)).trans KX6.out;have y4:=z6 k5 4;rw[ha] at y4;have nq:=(z7 (z7 HNU.out HXW6.out (fun _ _ f=>f)) hx6 (fun k hk e=>by simp[Value.ownBlock] at hk;have:=HWL.out;omega)).cellAt a (by omega);rw[List.getElem?_map,List.getElem?_range (by omega)] at nq;have p0:=z6 kp 4;have pf:=Q8 kp 4;have HKP:=q8 kp;have HX6:=q8 hx6;have HA:=q8 ha;have hpl:=z8 kp;clear kp hx6 k5 ha;go_wp2_with fail
       go_roundw
       case measure=>simp[intOf];omega
       case rel=>refine⟨3,by omega,by go_num,HX6.out.setCell (p:=⟨w5.heap.size,4,none⟩) (fun _=>rfl) _,?_⟩;have e:=Y4 HKP.out 4 (.int .i64 (u a));refine e.trans ?_;simp[zR1,CK.cells,HA.out]
     ·have hge:¬(l:Int)<(ar:Int):=by omega
      have hla:l=ar:=by omega
      have hck:zR1 x u l=zh5 x u:=by
       unfold zh5;rw[HAR.out,hla]
       rfl
      rw[hck] at kp;have hok:=HO.out.ok x HXM.out;have hux:=HO.out.sm j hlt;have hxe:q9 (fun k=>k=w5.heap.size) w4 wr:=(HX56.out.mono (fun _ _ f=>f.elim)).trans' hx6 (fun _ _ e=>e);have hms:=HS.out;have kres:wr.heap[w.heap.size]?=some (.cells #[.map none] 94):=(hxe.block _ (z8 hms.res) (by have:=z8 hms.res;omega)).trans hms.res;have kmod:wr.heap[w.heap.size+1+1]?=some (.cells #[.map (some (w.heap.size+1))] 94):=(hxe.block _ (z8 hms.mod) (by have:=z8 hms.mod;omega)).trans hms.mod;obtain⟨D,hD1,hD2,hD3⟩:=hms.map.ext hxe (by have:=z8 hms.mod;omega);have m0:=z6 kmod 0;have q0:=z6 kp 0;have q1:=z6 kp 1;have q2:=z6 kp 2;have q3:=z6 kp 3;have q4:=z6 kp 4;simp only[CK.cells] at q0 q1 q2 q3 q4;have nq:=(z7 (z7 HNU.out HXW6.out (fun _ _ f=>f)) hx6 (fun k hk e=>by simp[Value.ownBlock] at hk;have:=HWL.out;omega)).cellAt j (by omega);rw[List.getElem?_map,List.getElem?_range (by omega)] at nq;have hkey:=qd2 hok;have hkl:WideAt.IsKeyLit (klC (zh5 x u)):=qd1.key hkey;obtain⟨W4,hst,how4,hturn⟩:=(Z6 hD1 ((q9.refl (fun _=>False) wr).drew) (fun f=>f)).store qd1 underlying92 (by unfold maxLen;omega) hkey (plainElem_int underlying3 (zU5 hux));have hx7:q9 (fun k=>k=w.heap.size+1) wr W4:=(((q9.refl (fun _=>False) wr).drew).mono (fun _ _ f=>f.elim)).trans (k8 hturn);simp only[CK.val] at hst;have HM7:Hid (MS w TK u (j+1) W4):=by refine⟨(hms.ext.trans' hxe (fun k hk e=>by have:=HWL.out;omega)).trans' hx7 (fun k hk e=>by omega),(hx7.block _ (z8 kres) (by omega)).trans kres,(hx7.block _ (z8 kmod) (by omega)).trans kmod,_,how4,hD2.put hkl _,hD3.put hD2 HO.out HXJ.out HNM.out hkl⟩
      clear hD1 hD2 hD3 how4 hturn hx7 kres kmod hxe hms hx6 hkey hok hkl;go_wp2_with fail
      go_region
      all_goals
       go_wp2_with fail
       go_roundw
       case measure=>simp[intOf];omega
       case rel=>exact⟨j+1,by omega,by go_num,HM7.out⟩
  ·have hjn:j=TK.length:=by omega
   subst hjn;have h:=HS.out;have r0:=z6 h.res 0;have rf:=Q8 h.res 0;have m0:=z6 h.mod 0;have hlr:=z8 h.res;clear h;go_wp2_with fail;refine bodyPost_ret (v:=.agg #[.map (some (w.heap.size+1))]) (by simp[results,results38,go_sem,r0]) rfl ?_;have h:=HS.out;have hx:q9 (fun k=>k=w.heap.size) wr (wr.setCell ⟨w.heap.size,0,none⟩ (.map (some (w.heap.size+1)))):=(q9.refl (fun k=>k=w.heap.size) wr).setCell (p:=⟨w.heap.size,0,none⟩) (fun _=>rfl) _;exact⟨w.heap.size+1,rfl,h.ext.trans' hx (fun k hk e=>by omega),by omega,h.map.ext hx (by omega)⟩
end
def ckA(wd:ByteArray)(l:List Int):CK:=⟨wd,l.length,l[0]?.getD 0,l[1]?.getD 0,l[2]?.getD 0⟩
section
variable{T A:List Nd}{u:Nat->Int}
theorem jp4{v:Nd->Int}(hg:Ar.Good T v){wd:ByteArray}{ps:List Nd}(hm:.mk 3 wd 0 ps∈T):itpOf T v wd.toList (ps.map v)=v (.mk 3 wd 0 ps):=by have hex:∃ x:ByteArray × List Nd,Nd.mk 3 x.1 0 x.2∈T/\x.1.toList=wd.toList/\x.2.map v=ps.map v:=⟨(wd,ps),hm,rfl,rfl⟩;unfold itpOf;rw[dif_pos hex];have hs:=hex.choose_spec;have hw':hex.choose.1=wd:=O6 hs.2.1;have h1:=hs.1;rw[hw'] at h1 ⊢;exact hg.fn wd _ _ h1 hm hs.2.2
noncomputable def itpU(T:List Nd)(u:Nat->Int):Itp:=itpOf T (fun t=>u (idx T t))
theorem jp5(h:O3 T A)(hV:(zi3 (keys T) (pas T A)).V u){D:DataW Unit}(hm:MdF (keys T) u T.length D){wd:ByteArray}{l:List Int}(hk:(ckA wd l).Ok):D.atKey (klC (ckA wd l)) (.lit (.int .i64 0))=.lit (.int .i64 (itpU T u wd.toList l)):=by
 have hg:=zI8 h hV;by_cases hex:∃ (i:Nat) (x:Z3),i<T.length/\(keys T)[i]?=some x/\¬x.nm=⟨#[]⟩/\zh5 x u=ckA wd l
 ·obtain⟨i,x,hi,hx,hn,he⟩:=hex;have h1:=(hm.yes i x hi hx hn).1 (.lit (.int .i64 0));rw[he] at h1;rw[h1];obtain⟨w,ps,ht,rfl,hl3,_⟩:=h.fun_ hx hn;rw[qd3 hl3] at he;simp only[ckA,CK.mk.injEq] at he;obtain⟨rfl,e1,e2,e3,e4⟩:=he;have e5:ps.map (fun t=>u (idx T t))=l:=qY8 (by simpa using hl3) (by simp;omega) e2 e3 e4;have hmm:=List.mem_of_getElem? ht;have e6:itpOf T (fun t=>u (idx T t)) w.toList (ps.map (fun t=>u (idx T t)))=u (idx T (.mk 3 w 0 ps)):=jp4 hg hmm;rw[e5,idx_at h.tn ht] at e6;unfold itpU;rw[e6]
 ·have h1:=hm.no (ckA wd l) hk (fun i x hi hx hn e=>hex ⟨i,x,hi,hx,hn,e⟩);rw[atKey_of_not_has h1];unfold itpU itpOf;rw[dif_neg];rintro⟨⟨w,ps⟩,hmm,hw,e⟩;obtain rfl:w=wd:=O6 hw;have hx:=zt3 (zc1 hmm);have hn:¬(keyT T (.mk 3 w 0 ps)).nm=⟨#[]⟩:=by
   rw[U9];cases h.tm hmm with
   | app hw hl hp=>exact qc6 hw
  refine hex ⟨_,_,zs0 hmm,hx,hn,?_⟩;have hl3:ps.length<=3:=by cases h.tm hmm;assumption
  have e':ps.map (fun t=>u (idx T t))=l:=e;rw[qd3 hl3,e'];have:ps.length=l.length:=by rw[<- e'];simp
  simp[ckA,this]
theorem jp6(h:O3 T A)(hT:T.length<=12)(hV:(zi3 (keys T) (pas T A)).V u)(w:List UInt8)(l:List Int):Sm (itpU T u w l):=by
 unfold itpU itpOf;split
 ·rename_i hex;have hs:=hex.choose_spec;have:=(jl5 h hT hV).sm (idx T (.mk 3 hex.choose.1 0 hex.choose.2)) (by rw[Y3];exact zs0 hs.1);exact this
 ·exact⟨by omega,by omega⟩
theorem qz8(h:O3 T A)(hT:T.length<=12)(hV:(zi3 (keys T) (pas T A)).V u){t:Nd}(ht:Y5 t):Sm (Y1 (itpU T u) t):=by
 cases ht with
 | num h1 h2=>rw[Y1,if_pos rfl];exact⟨by omega,by omega⟩
 | app hw hl hp=>rw[Y1,if_neg (by decide)];exact jp6 h hT hV _ _
theorem je1(h:O3 T A){L:List Nd}(hL:∀ f∈L,FmW f/\∀ x∈J0 false f,x∈A){n:Nat}(hV:(zi3 (keys T) (pas T A)).V u)(hn:∀ f∈L,ftr (alpha A n) f=true)(hw:isW ((pas T A).map PA.at_) u n):∀ f∈L,ftr (zd7 (Y1 (itpU T u))) f=true:=by
 have hg:=zI8 h hV;have hc:∀ x∈T,∀ p∈parts x,p∈T:=fun x hx p hp=>h.cl.part hx hp
 intro f hf;obtain⟨h1,h2⟩:=hL f hf;rw[<- hn f hf];refine zE8 h1.ok (fun x hx=>?_);have hxA:=h2 x hx;rw[zQ5 h (fun t _=>rfl) hw hxA];refine zP2 (fun p hp=>?_);have hpT:=(h.ac x hxA).2 p hp;exact qA4 hg hc (h.tm hpT) hpT
end
section
variable{T A:List Nd}{u:Nat->Int}{mb:Nat}
def je2(T:List Nd)(u:Nat->Int)(mb:Nat)(p:Nd):Prop:=∀ (w:World) (D:Nat->Prop) (k':Int) (wd':ByteArray) (v':Int) (pa':Option Addr) (pn' pc':Nat),PN w D [.int .i64 k',.string wd',.int .i64 v',.slice pa' pn' pc'] p->MdW w mb T.length (keys T) u T.length ->
 Calls prog 115 #[.agg #[.map (some mb)],.agg #[.int .i64 k',.string wd',.int .i64 v',.slice pa' pn' pc']] w fun e w'=>e=.returned (.int .i64 (Y1 (itpU T u) p))/\q9 (fun _=>False) w w'
theorem qH5{v:Int}{wd:ByteArray}:je2 T u mb (.mk 4 wd v []):=by intro w D k' wd' v' pa' pn' pc' hpn _;cases hpn;have HX:=q8 (q9.refl (fun _=>False) w);go_enter func115,ntmps115;go_wp2_with fail;go_ret;exact⟨by rw[Y1,if_pos rfl];rfl,(HX.out.alloc _).alloc _⟩
def ckP(wd:ByteArray)(n:Int)(l:List Int):CK:=⟨wd,n,l[0]?.getD 0,l[1]?.getD 0,l[2]?.getD 0⟩
structure VW(w:World)(mb:Nat)(word:ByteArray)(pv:Value)(n:Int)(l:List Int)(wr:World):Prop where
 ext:q9 (fun _=>False) w wr
 mbk:wr.heap[w.heap.size]?=some (.cells #[.map (some mb)] 94)
 nbk:wr.heap[w.heap.size+1]?=some (.cells #[.int .i64 3,.string word,.int .i64 0,pv] 115)
 tbk:wr.heap[w.heap.size+1+1]?=some (.cells (ckP word n l).cells.toArray 147)
theorem je3{w:World}{word:ByteArray}{pv:Value}{n:Int}:VW w mb word pv n [] (((w.alloc (.cells #[.map (some mb)] 94)).alloc (.cells #[.int .i64 3,.string word,.int .i64 0,pv] 115)).alloc (.cells #[.string word,.int .i64 n,.int .i64 0,.int .i64 0,.int .i64 0] 147)):=by
 refine⟨(((q9.refl _ w).alloc _).alloc _).alloc _,?_,?_,?_⟩
 ·rw[heap_alloc_old _ _ (by simp;omega),heap_alloc_old _ _ (by simp)];exact heap_alloc_new w _
 ·rw[heap_alloc_old _ _ (by simp)];exact heap_alloc2_new w _ _
 ·have e:=heap_alloc_new ((w.alloc (.cells #[.map (some mb)] 94)).alloc (.cells #[.int .i64 3,.string word,.int .i64 0,pv] 115)) (.cells #[.string word,.int .i64 n,.int .i64 0,.int .i64 0,.int .i64 0] 147);rw[y8,y8] at e;exact e
theorem je4{word:ByteArray}{n:Int}{l:List Int}(hl:l.length<3)(x:Int):(ckP word n l).cells.toArray.setIfInBounds (2+l.length) (.int .i64 x)=(ckP word n (l++[x])).cells.toArray:=by
 match l,hl with
 | [],_=>rfl
 | [a],_=>rfl
 | [a,b],_=>rfl
theorem qS8{word:ByteArray}{n:Int}{l:List Int}(hl:l.length<3):∃ x,(ckP word n l).cells.toArray[2+l.length]?=some (.int .i64 x):=by
 match l,hl with
 | [],_=>exact⟨_,rfl⟩
 | [a],_=>exact⟨_,rfl⟩
 | [a,b],_=>exact⟨_,rfl⟩
theorem VW.next{w wr w2:World}{word:ByteArray}{pv:Value}{n:Int}{l:List Int}(h:VW w mb word pv n l wr)(hx:q9 (fun _=>False) wr w2)(hl:l.length<3)(x:Int):VW w mb word pv n (l++[x]) (w2.setCell ⟨w.heap.size+1+1,2+l.length,none⟩ (.int .i64 x)):=by
 have k2:=(hx.block _ (z8 h.tbk) (fun f=>f)).trans h.tbk;have hxs:q9 (fun q=>q=w.heap.size+1+1) w2 (w2.setCell ⟨w.heap.size+1+1,2+l.length,none⟩ (.int .i64 x)):=(q9.refl (fun q=>q=w.heap.size+1+1) w2).setCell (p:=⟨w.heap.size+1+1,2+l.length,none⟩) (fun _=>rfl) _;refine⟨(h.ext.trans hx).trans' hxs (fun k hk e=>by omega),?_,?_,?_⟩
 ·exact(hxs.block _ (Nat.lt_of_lt_of_le (z8 h.mbk) hx.size) (by omega)).trans ((hx.block _ (z8 h.mbk) (fun f=>f)).trans h.mbk)
 ·exact(hxs.block _ (Nat.lt_of_lt_of_le (z8 h.nbk) hx.size) (by omega)).trans ((hx.block _ (z8 h.nbk) (fun f=>f)).trans h.nbk)
 ·rw[<- je4 hl];exact Y4 k2 _ _
theorem qH6{word:ByteArray}{ps:List Nd}(h:O3 T A)(hT:T.length<=12)(hV:(zi3 (keys T) (pas T A)).V u)(hws:word.size<=1000)(hl3:ps.length<=3)(hps:∀ p∈ps,Y5 p){w:World}{D:Nat->Prop}{pa:Option Addr}{pc:Nat}(hm:MdW w mb T.length (keys T) u T.length)
  (hkid:∀ (i:Nat) (p:Nd),ps[i]?=some p->∃ g k' wd' v' pa' pn' pc',pa=some ⟨g,0,none⟩/\g<w.heap.size/\D g/\w.cell? ⟨g,i*4,none⟩=some (.int .i64 k')/\w.cell? ⟨g,i*4+1,none⟩=some (.string wd')/\w.cell? ⟨g,i*4+2,none⟩=some (.int .i64 v')/\w.cell? ⟨g,i*4+3,none⟩=some (.slice pa' pn' pc')/\PN w D [.int .i64 k',.string wd',.int .i64 v',.slice pa' pn' pc'] p)
  (hih:∀ p∈ps,je2 T u mb p):
  Calls prog 115 #[.agg #[.map (some mb)],.agg #[.int .i64 3,.string word,.int .i64 0,.slice pa ps.length pc]] w fun e w'=>e=.returned (.int .i64 (Y1 (itpU T u) (.mk 3 word 0 ps)))/\q9 (fun _=>False) w w':=by
 have H:=q8 h;have HT:=q8 hT;have HV:=q8 hV;have HPS:=q8 hps;have HKID:=q8 hkid;have HIH:=q8 hih;have HM:=q8 hm;clear h hT hV hps hkid hih hm;go_enter func115,ntmps115;go_wp2_with fail
 go_loopw [23] (fun i wr=>∃ (l:List Int),i=.int .i64 l.length/\l.length<=ps.length/\l=(ps.take l.length).map (Y1 (itpU T u))/\VW w mb word (.slice pa ps.length pc) ps.length l wr) (fun i _=>ps.length-(intOf i).toNat)
 case atStart=>exact⟨[],rfl,Nat.zero_le _,rfl,je3⟩
 case round=>
  obtain⟨l,rfl,hll,hl,hvw⟩:=hrel;have n0:=z6 hvw.nbk 0;have n1:=z6 hvw.nbk 1;have n3:=z6 hvw.nbk 3;have m0:=z6 hvw.mbk 0;have HL:=q8 hl;have HVW:=q8 hvw;clear hl hvw;by_cases hlt:l.length<ps.length
  ·obtain⟨p,hp⟩:∃ p,ps[l.length]?=some p:=⟨_,List.getElem?_eq_getElem hlt⟩;obtain⟨g,k',wd',v',pa',pn',pc',rfl,hgl,hDg,z0,z1,z2,z3,hpn⟩:=HKID.out l.length p hp;rw[<- HVW.out.ext.cell (p:=⟨g,l.length*4,none⟩) hgl (fun f=>f)] at z0;rw[<- HVW.out.ext.cell (p:=⟨g,l.length*4+1,none⟩) hgl (fun f=>f)] at z1;rw[<- HVW.out.ext.cell (p:=⟨g,l.length*4+2,none⟩) hgl (fun f=>f)] at z2;rw[<- HVW.out.ext.cell (p:=⟨g,l.length*4+3,none⟩) hgl (fun f=>f)] at z3;have HP:=q8 hp;have HPN:=q8 hpn;have hj3:l.length<3:=by omega
   have HMEM:=q8 (List.mem_of_getElem? hp);have hlt0:=z8 HVW.out.mbk;have hne0:¬w.heap.size=wr.heap.size:=by omega
   have hne1:¬wr.heap.size=w.heap.size:=by omega
   clear hp hpn hgl hDg;go_wp2_with fail;obtain⟨V,hV⟩:∃ V,wr.alloc (.cells #[.int .i64 k',.string wd',.int .i64 v',.slice pa' pn' pc'] 115)=V:=⟨_,rfl⟩;have HXV:Hid (q9 (fun _=>False) wr V):=by rw[<- hV];exact(q9.refl _ wr).alloc _
   rw[hV];clear hV n0 n1 n3 m0 z0 z1 z2 z3;have hxw:=HVW.out.ext.trans HXV.out;obtain⟨Dm,d1,d2,d3⟩:=HM.out;refine(HIH.out p HMEM.out V D k' wd' v' pa' pn' pc' (HPN.out.ext hxw (fun _ _ _ f=>f)) ⟨Dm,Z6 d1 hxw (fun f=>f),d2,d3⟩).mono ?_;rintro e w2 ⟨rfl,hx2⟩;have hnx:=HVW.out.next (HXV.out.trans hx2) hj3 (Y1 (itpU T u) p);have kt:=((HXV.out.trans hx2).block _ (z8 HVW.out.tbk) (fun f=>f)).trans HVW.out.tbk;obtain⟨x0,hx0⟩:=qS8 (word:=word) (n:=ps.length) hj3;have tc:=(z6 kt (2+l.length)).trans hx0;have tf:=Q8 kt (2+l.length);have HNX:=q8 hnx;clear hx2 hnx kt hx0 hxw d1 d2 d3;go_wp2_with fail
   go_roundw
   case measure=>simp[intOf];omega
   case rel=>exact⟨l++[Y1 (itpU T u) p],by simp,by simp;omega,by rw[List.length_append,List.length_singleton,List.take_add_one,HP.out,List.map_append,<- HL.out];rfl,HNX.out⟩
  ·have hjl:l.length=ps.length:=by omega
   have hl2:l=ps.map (Y1 (itpU T u)):=by have:=HL.out;rw[hjl,List.take_of_length_le (Nat.le_refl _)] at this;exact this
   have HL2:=q8 hl2;have hok:(ckA word l).Ok:=by
    have hb:∀ (i:Nat),Sm ((l[i]?).getD 0):=by
     intro i;rw[hl2,List.getElem?_map];cases e:ps[i]? with
     | none=>exact⟨by simp,by simp⟩
     | some p=>exact qz8 H.out HT.out HV.out (HPS.out p (List.mem_of_getElem? e))
    exact⟨hws,⟨by show(-1000000000:Int)<=(l.length:Int);omega,by show(l.length:Int)<=1000000000;omega⟩,hb 0,hb 1,hb 2⟩
   have eck:ckP word ps.length l=ckA word l:=by unfold ckP ckA;rw[hjl]
   obtain⟨y0,hy0⟩:∃ y,l[0]?.getD 0=y:=⟨_,rfl⟩;obtain⟨y1,hy1⟩:∃ y,l[1]?.getD 0=y:=⟨_,rfl⟩;obtain⟨y2,hy2⟩:∃ y,l[2]?.getD 0=y:=⟨_,rfl⟩;have ecv:ckA word l=⟨word,ps.length,y0,y1,y2⟩:=by unfold ckA;rw[hjl,hy0,hy1,hy2]
   have hke:keyOf prog 147 (.agg #[.string word,.int .i64 ps.length,.int .i64 y0,.int .i64 y1,.int .i64 y2])=some (klC (ckA word l)):=by have:=qd2 hok;rw[ecv] at this ⊢;exact this
   have kt:=HVW.out.tbk;rw[eck,ecv] at kt;have t0:=z6 kt 0;have t1:=z6 kt 1;have t2:=z6 kt 2;have t3:=z6 kt 3;have t4:=z6 kt 4;simp only[CK.cells] at t0 t1 t2 t3 t4;have hlk:(Instr.lookup 92 (.map (some mb)) (.agg #[.string word,.int .i64 ps.length,.int .i64 y0,.int .i64 y1,.int .i64 y2]) false).run prog wr=.ok (.int .i64 (itpU T u word.toList l)) wr:=by obtain⟨Dm,d1,d2,d3⟩:=HM.out;have ho2:=Z6 d1 HVW.out.ext (fun f=>f);obtain⟨v,ps,hrun,hv⟩:=ho2.lookup qd1 underlying92 (zj5 _) (plainElem_int underlying3 (by decide)) hke;rw[jp5 H.out HV.out d3 hok] at hv;obtain⟨a,rfl,e2,_⟩:=plainElem_int_inv underlying3 hv;simp at e2;rw[hrun,e2.1]
   have hge:¬(l.length:Int)<(ps.length:Int):=by omega
   clear kt hke hok eck ecv hy0 hy1 hy2 hl2;go_wp2_with fail;go_ret;refine⟨?_,HVW.out.ext⟩;rw[Y1,if_neg (by decide),zo6,<- HL2.out]
   rfl
theorem qH7(h:O3 T A)(hT:T.length<=12)(hV:(zi3 (keys T) (pas T A)).V u){p:Nd}(hp:Y5 p):je2 T u mb p:=by
 induction hp with
 | num h1 h2=>exact qH5
 | @app word ps hw hl hps ih=>
  intro w D k' wd' v' pa' pn' pc' hpn hm;cases hpn with
  | @mk _ _ _ _ _ kids how hkl hkn hD hk=>
   obtain⟨a,cap,hv,_,_,hkid⟩:=zA6 how hkl hkn hD hk;cases hv;have hsz:word.size<=1000:=by have:=zD7 hw;omega
   exact qH6 h hT hV hsz hl hps hm hkid ih
end
end Go.Proofs.YtegbdaffhpiacaaGreatDoor
