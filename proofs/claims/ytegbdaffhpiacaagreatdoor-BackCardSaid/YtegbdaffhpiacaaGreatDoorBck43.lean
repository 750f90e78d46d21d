/- The program: whether formulas can be true together. -/
import Derived.Test.YtegbdaffhpiacaaGreatDoorBck38
import Derived.Test.YtegbdaffhpiacaaGreatDoorBck39
import Derived.Test.YtegbdaffhpiacaaGreatDoorBck41
import Derived.Test.YtegbdaffhpiacaaGreatDoorBck42
namespace Go.Proofs.YtegbdaffhpiacaaGreatDoor
open Go.RowKit Go.Maps Ar
theorem qr9 {w w' w'':World} (h:q9 (fun _=>False) w w') (h2:Below w.heap.size w' w''):q9 (fun _=>False) w w'' :=
 ⟨h2.os.trans h.os,h2.tape.trans h.tape,h2.output.trans h.output,Nat.le_trans h.size h2.size,fun k hk _=>(h2.block k hk).trans (h.block k hk (fun f=>f))⟩
def Fits (T A ps:List Nd) (u:Nat->Int):Prop:=(zr3 (keys T) (pas T A)).V u/\∃ n,(∀ f∈ps,ftr (alpha A n) f=true)/\isW ((pas T A).map PA.at_) u n
section
variable {w:World} {sb:Nat} {nv:Value} {xs:PX} {T A ps:List Nd} {D:Nat->Prop} {pv:Value}
theorem je4:Sat []:=⟨fun _ _=>0,fun f hf=>absurd hf (by simp)⟩
theorem jl8 (h:zc5 T A) (hT:T.length<=12) (hA:A.length<=16) (hte:A=[]->T=[]):zD2 (zr3 (keys T) (pas T A)) (keys T) (pas T A) (zM6 (keys T)):=by
 have hk:=h.kok
 have hl:(keys T).length<=12:=by rw [Y4];exact hT
 obtain ⟨f0,f1,_⟩:=hk.far hl
 refine ⟨hk.fx,by show zd3 (keys T) (pas T A)<=100000;omega,hl,by rw [zh2];exact hA,?_,hk.at_,hk.b,hk.fok,fun e=>?_⟩
 ·have h1:=zM7 (keys T) (keys T).length
  have h2:(keys T).length * (keys T).length<=12 * 12:=Nat.mul_le_mul hl hl
  show (zr1 (keys T) (keys T).length).length<=1000
  omega
 ·have hA0:A=[]:=by
   have:=congrArg List.length e
   rw [zh2] at this
   exact List.eq_nil_of_length_eq_zero this
  rw [hte hA0]
  rfl
set_option maxRecDepth 100000 in
set_option maxHeartbeats 1000000 in
theorem qs0 (h:PSt w sb nv xs T A) (hT:T.length<=12) (hA:A.length<=16) (hte:A=[]->T=[]) (hk:zn1 w D A ps pv) (hps:∀ p∈ps,FmW p/\∀ x∈J5 false p,x∈A) (hp:Y2 w) :
  Calls Tryz.prog 37 #[.pointer (some ⟨sb,0,none⟩),pv] w fun e w'=>∃ r mv,e=.returned (.agg #[.bool r,mv])/\q9 (fun _=>False) w w'/\(r=true↔Sat ps)/\(r=true->∃ u,Fits T A ps u/\w'.ownsRow 0 3 1 mv T.length ((List.range T.length).map fun i=>.int .i64 (u i)))/\∃ ma mn mc,mv=.slice ma mn mc:=by
 have hpo:zc5 T A:=⟨h.ts.cl,h.ts.nd,h.ac,h.nd⟩
 have hrun:=jl8 hpo hT hA hte
 obtain ⟨u0,n0,hV0,_⟩:=qS0 (L:=[]) hpo (fun f hf=>absurd hf (by simp)) je4
 have HC1:Hid (∀ W,q9 (fun _=>False) w W->Calls Tryz.prog 39 #[.pointer (some ⟨sb,1,none⟩)] W fun e w'=>∃ v',e=.returned v'/\q9 (fun _=>False) W w'/\w'.ownsRow 0 145 6 v' T.length ((keys T).flatMap Z0.cells)):=fun W hx=>zU2 (h.ext hx (fun _ _ f=>f)) hT
 have HC2:Hid (∀ W,q9 (fun _=>False) w W->Calls Tryz.prog 58 #[.pointer (some ⟨sb,1,none⟩)] W fun e w'=>∃ v',e=.returned v'/\q9 (fun _=>False) W w'/\w'.ownsRow 0 153 4 v' A.length ((keysA T A).flatMap X9.cells)):=fun W hx=>qH8 (h.ext hx (fun _ _ f=>f)) hA
 have HC3:Hid (∀ W,q9 (fun _=>False) w W->Calls Tryz.prog 59 #[pv,.int .i64 A.length] W (H6 W (2 ^ (A.length - 6)) (fun n=>(ps.map (ftr (alpha A n))).all id))):=fun W hx=>qm0 hA (hk.ext hx (fun _ _ _ f=>f)) (fun p hp=>(hps p hp).1) (hp.ext hx (fun f=>f))
 obtain ⟨pa,pc,rfl⟩:∃ pa pc,pv=.slice pa ps.length pc:=by
  obtain ⟨kids,h1,_⟩:=hk.ex
  obtain ⟨a,c,e⟩:=j9 h1
  exact ⟨a,c,e⟩
 have HPO:=q8 hpo
 have HR:=q8 hrun
 have HV0:=q8 hV0
 have HPS:=q8 hps
 have HPT:=q8 hp
 clear h hk hps hp hpo hrun hV0 hte
 go_enter Tryz.func37,Tryz.ntmps37
 go_wp2_with fail
 obtain ⟨W0,hW0⟩:∃ W0,w.alloc (.cells #[.bool false,.slice none 0 0] 74)=W0:=⟨_,rfl⟩
 have HX0:Hid (q9 (fun _=>False) w W0):=by rw [<- hW0];exact (q9.refl _ w).alloc _
 have KR:Hid (W0.heap[w.heap.size]?=some (.cells #[.bool false,.slice none 0 0] 74)):=by rw [<- hW0];exact heap_alloc_new w _
 rw [hW0]
 clear hW0
 go_region_law (go_simp;go_wp2_with (first | (go_at_call 39;refine (HC1.out W0.drew HX0.out.drew).mono ?_;rintro e w1 ⟨tv,rfl,hx1,ht1⟩;obtain ⟨ta,tc,rfl⟩:=j9 ht1;have HX1:Hid (q9 (fun _=>False) W0 w1):=((q9.refl (fun _=>False) W0).drew).trans hx1;have HT1:=q8 ht1;clear hx1 ht1) | (go_at_call 58;refine (HC2.out w1 (HX0.out.trans HX1.out)).mono ?_;rintro e w2 ⟨av,rfl,hx2,ha2⟩;obtain ⟨aa,ac,rfl⟩:=j9 ha2;have HX2:=q8 hx2;have HA2:=q8 ha2;clear hx2 ha2)))
 all_goals
  go_wp2_with fail
  refine (HC3.out w2 ((HX0.out.trans HX1.out).trans HX2.out)).mono ?_
  rintro e w3 ⟨b,v,l,rfl,hb,hx3,hws,hll,hl⟩
  obtain ⟨cap,cur,rfl,hcap,kws⟩:=hws.shape
  have HX3:Hid (q9 (fun _=>False) w w3):=((HX0.out.trans HX1.out).trans HX2.out).trans hx3
  have KR3:Hid (w3.heap[w.heap.size]?=some (.cells #[.bool false,.slice none 0 0] 74)):=(((HX1.out.trans HX2.out).trans hx3).block _ (z8 KR.out) (fun f=>f)).trans KR.out
  have HWS:=q8 hws
  have HLL:=q8 hll
  have HL:=q8 hl
  have HNEW:Hid (∀ W,q9 (fun _=>False) w3 W->Calls Tryz.prog 61 #[.slice ta T.length tc,.slice aa A.length ac] W fun e w'=>∃ hb g c X,e=.returned (.pointer (some ⟨hb,0,none⟩))/\q9 (fun _=>False) W w'/\W.heap.size<=hb/\W.heap.size<=g/\c.sv=.slice none 0 0/\ThR w' hb g c (keys T) (pas T A) (zM6 (keys T)) [] [X]/\ThG (zr3 (keys T) (pas T A)) [] X):=fun W hW=>by
   refine qH9 (TK:=keys T) (AK:=pas T A) ?_ ?_ (by rw [Y4];exact hT) (by rw [zh2];exact hA) HPO.out.kok ⟨u0,HV0.out⟩
   ·rw [Y4]
    exact z7 (z7 (z7 HT1.out HX2.out (fun _ _ f=>f)) hx3 (fun _ _ f=>f)) hW (fun _ _ f=>f)
   ·rw [zh2,<- qG6]
    exact z7 (z7 HA2.out hx3 (fun _ _ f=>f)) hW (fun _ _ f=>f)
  have HRUN:Hid (∀ W hb g c X,q9 (fun _=>False) w3 W->w3.heap.size<=hb->w3.heap.size<=g->c.sv=.slice none 0 0->ThR W hb g c (keys T) (pas T A) (zM6 (keys T)) [] [X]->ThG (zr3 (keys T) (pas T A)) [] X ->
    Calls Tryz.prog 60 #[.iface 139 (.pointer (some ⟨hb,0,none⟩)),.int .i64 A.length,.slice (some ⟨b,0,none⟩) l.length cap] W fun e w'=>∃ r mv,e=.returned (.agg #[.bool r,mv])/\q9 (fun _=>False) w w'/\w'.heap[w.heap.size]?=some (.cells #[.bool false,.slice none 0 0] 74)/\(r=true↔Sat ps)/\(r=true->∃ u,Fits T A ps u/\w'.ownsRow 0 3 1 mv T.length ((List.range T.length).map fun i=>.int .i64 (u i)))/\(r=false->mv=.slice none 0 0)):=by
   intro W hb2 g c X hW h1 h2 h3 h4 h5
   have hR:=qH0 (B:=w3.heap.size) (l:=l) (b:=b) HR.out h4 h5 (hws.ext hW (fun f=>f)) (by rw [zh2];exact hll) ((HPT.out.ext HX3.out (fun f=>f)).ext hW (fun f=>f)) (Nat.lt_of_lt_of_le (z8 HPT.out) HX3.out.size) hW.size ⟨h1,h2⟩ (fun k hk=>by rw [h3] at hk;simp [Value.ownBlock] at hk)
   rw [zh2,Y4] at hR
   refine hR.mono ?_
   rintro e w' ⟨r,mv,rfl,hbl,ht,hf⟩
   have hxw:=qr9 hW hbl
   refine ⟨r,mv,rfl,HX3.out.trans hxw,(hxw.block _ (z8 KR3.out) (fun f=>f)).trans KR3.out,⟨fun e=>?_,fun hs=>?_⟩,fun e=>?_,fun e=>(hf e).1⟩
   ·obtain ⟨vals,hv,⟨x,hx,hh,hw⟩,_⟩:=ht e
    refine jl0 HPO.out HPS.out hv (n:=x) (fun f hf=>?_) hw
    have hlx:=hl x (by rw [<- hll];rw [hll];unfold nw at hx;rw [zh2] at hx;exact hx)
    rw [hh] at hlx
    exact List.all_eq_true.1 hlx.symm _ (List.mem_map.2 ⟨f,hf,rfl⟩)
   ·cases r with
    | true=>rfl
    | false =>
     obtain ⟨uu,n,hV,hn,hfs,hw⟩:=qS0 HPO.out HPS.out hs
     have hn2:n < 64 * 2 ^ (A.length - 6):=by
      refine Nat.lt_of_lt_of_le hn ?_
      rw [show 64=2 ^ 6 from rfl,<- Nat.pow_add]
      exact Nat.pow_le_pow_right (by omega) (by omega)
     have hlx:=hl n hn2
     have hall:(ps.map (ftr (alpha A n))).all id=true:=List.all_eq_true.2 (fun y hy=>by
      obtain ⟨f,hf,rfl⟩:=List.mem_map.1 hy
      exact hfs f hf)
     exact absurd hw ((hf rfl).2 uu hV n (by unfold nw;rw [zh2];exact hn2) (hlx.trans hall))
   ·obtain ⟨vals,hv,⟨x,hx,hh,hw⟩,hrow,_⟩:=ht e
    have hlx:=hl x (by unfold nw at hx;rw [zh2] at hx;exact hx)
    rw [hh] at hlx
    exact ⟨vals,⟨hv,x,fun f hf=>List.all_eq_true.1 hlx.symm _ (List.mem_map.2 ⟨f,hf,rfl⟩),hw⟩,hrow⟩
  clear hx3 hws hll hl kws HC1 HC2 HC3
  go_wp2_with fail
  refine (HNEW.out w3 (q9.refl _ _)).mono ?_
  rintro e w4 ⟨hb2,g,c,X,rfl,hx4,q1,q2,q3,q4,q5⟩
  have HC5:=q8 (HRUN.out w4 hb2 g c X hx4 q1 q2 q3 q4 q5)
  clear hx4 q1 q2 q3 q4 q5 HNEW HRUN
  go_wp2_with fail
  refine HC5.out.mono ?_
  rintro e w5 ⟨r,mv,rfl,hx5,k5,hr5,ht5,hf5⟩
  obtain ⟨ma,mn,mc,rfl⟩:∃ ma mn mc,mv=.slice ma mn mc:=by
   cases r with
   | true =>
    obtain ⟨_,_,hrow⟩:=ht5 rfl
    obtain ⟨a,cc,e⟩:=j9 hrow
    exact ⟨a,_,cc,e⟩
   | false=>exact ⟨_,_,_,hf5 rfl⟩
  have a0:=z6 k5 0
  have a1:=z6 k5 1
  have af0:=Q0 k5 0
  have af1:=Q0 k5 1
  have hkl:=z8 k5
  have HX5:=q8 hx5
  have HR5:=q8 hr5
  have HT5:=q8 ht5
  have K5:=q8 k5
  clear hx5 hr5 ht5 hf5 HC5 k5
  go_wp2_with fail
  refine bodyPost_ret (v:=.agg #[.bool r,.slice ma mn mc]) (by simp [results,Tryz.results37,go_sem,a0,a1]) rfl ⟨r,_,rfl,?_,HR5.out,fun e=>?_,_,_,_,rfl⟩
  ·exact (HX5.out.setCell (p:=⟨w.heap.size,0,none⟩) (fun h=>absurd h (Nat.lt_irrefl _)) _).setCell (p:=⟨w.heap.size,1,none⟩) (fun h=>absurd h (Nat.lt_irrefl _)) _
  ·obtain ⟨u,hu,hrow⟩:=HT5.out e
   refine ⟨u,hu,z7 hrow (((q9.refl (fun i=>i=w.heap.size) w5).setCell (p:=⟨w.heap.size,0,none⟩) (fun _=>rfl) _).setCell (p:=⟨w.heap.size,1,none⟩) (fun _=>rfl) _) (fun k hk e2=>?_)⟩
   subst e2
   exact Z6 hrow K5.out (by decide) hk
end
end Go.Proofs.YtegbdaffhpiacaaGreatDoor
