/- A part of the proof. -/
import Derived.Test.YtegbdaffhpiacaaGreatDoorMod41
import Derived.Test.YtegbdaffhpiacaaGreatDoorMod37
import Derived.Test.YtegbdaffhpiacaaGreatDoorMod33
set_option maxRecDepth 100000
set_option maxHeartbeats 1000000
namespace Go.Proofs.YtegbdaffhpiacaaGreatDoor
open Go.Proofs.Tryz hiding parts
open Go.RowKit Go.Maps Ar
theorem qw1{w w' w'':World}(h:q9 (fun _=>False) w w')(h2:Below w.heap.size w' w''):q9 (fun _=>False) w w'' :=
 ⟨h2.os.trans h.os,h2.tape.trans h.tape,h2.output.trans h.output,Nat.le_trans h.size h2.size,fun k hk _=>(h2.block k hk).trans (h.block k hk (fun f=>f))⟩
def Fits(T A ps:List Nd)(u:Nat->Int):Prop:=(zi3 (keys T) (pas T A)).V u/\∃ n,(∀ f∈ps,ftr (alpha A n) f=true)/\isW ((pas T A).map PA.at_) u n
section
variable{w:World}{sb:Nat}{nv:Value}{xs:PX}{T A ps:List Nd}{D:Nat->Prop}{pv:Value}
theorem qB9:Sat []:=⟨fun _ _=>0,fun f hf=>absurd hf (by simp)⟩
theorem jr6(h:O3 T A)(hT:T.length<=12)(hA:A.length<=16)(hte:A=[]->T=[]):zF2 (zi3 (keys T) (pas T A)) (keys T) (pas T A) (zQ0 (keys T)):=by
 have hk:=h.kok;have hl:(keys T).length<=12:=by rw[Y3];exact hT
 obtain⟨f0,f1,_⟩:=hk.far hl;refine⟨hk.fx,by show ze6 (keys T) (pas T A)<=100000;omega,hl,by rw[zi4];exact hA,?_,hk.at_,hk.b,hk.fok,fun e=>?_⟩
 ·have h1:=zQ1 (keys T) (keys T).length;have h2:(keys T).length*(keys T).length<=12*12:=Nat.mul_le_mul hl hl;show(zt0 (keys T) (keys T).length).length<=1000;omega
 ·have hA0:A=[]:=by
   have:=congrArg List.length e;rw[zi4] at this;exact List.eq_nil_of_length_eq_zero this
  rw[hte hA0]
  rfl
theorem zR2(h:PSt w sb nv xs T A)(hT:T.length<=12)(hA:A.length<=16)(hte:A=[]->T=[])(hk:zn0 w D A ps pv)(hps:∀ p∈ps,FmW p/\∀ x∈J0 false p,x∈A)(hp:K9 w):
  Calls prog 37 #[.pointer (some ⟨sb,0,none⟩),pv] w fun e w'=>∃ r mv,e=.returned (.agg #[.bool r,mv])/\q9 (fun _=>False) w w'/\(r=true↔Sat ps)/\(r=true->∃ u,Fits T A ps u/\w'.ownsRow 0 3 1 mv T.length ((List.range T.length).map fun i=>.int .i64 (u i)))/\∃ ma mn mc,mv=.slice ma mn mc:=by
 have hpo:O3 T A:=⟨h.ts.cl,h.ts.nd,h.ac,h.nd⟩;have hrun:=jr6 hpo hT hA hte;obtain⟨u0,n0,hV0,_⟩:=qW9 (L:=[]) hpo (fun f hf=>absurd hf (by simp)) qB9;have HC1:Hid (∀ W,q9 (fun _=>False) w W->Calls prog 39 #[.pointer (some ⟨sb,1,none⟩)] W fun e w'=>∃ v',e=.returned v'/\q9 (fun _=>False) W w'/\w'.ownsRow 0 145 6 v' T.length ((keys T).flatMap Z3.cells)):=fun W hx=>zX8 (h.ext hx (fun _ _ f=>f)) hT
 have HC2:Hid (∀ W,q9 (fun _=>False) w W->Calls prog 58 #[.pointer (some ⟨sb,1,none⟩)] W fun e w'=>∃ v',e=.returned v'/\q9 (fun _=>False) W w'/\w'.ownsRow 0 153 4 v' A.length ((keysA T A).flatMap Y2.cells)):=fun W hx=>qM7 (h.ext hx (fun _ _ f=>f)) hA
 have HC3:Hid (∀ W,q9 (fun _=>False) w W->Calls prog 59 #[pv,.int .i64 A.length] W (O8 W (2^(A.length-6)) (fun n=>(ps.map (ftr (alpha A n))).all id))):=fun W hx=>qq1 hA (hk.ext hx (fun _ _ _ f=>f)) (fun p hp=>(hps p hp).1) (hp.ext hx (fun f=>f))
 obtain⟨pa,pc,rfl⟩:∃ pa pc,pv=.slice pa ps.length pc:=by obtain⟨kids,h1,_⟩:=hk.ex;obtain⟨a,c,e⟩:=Q0 h1;exact⟨a,c,e⟩
 have HPO:=q8 hpo;have HR:=q8 hrun;have HV0:=q8 hV0;have HPS:=q8 hps;have HPT:=q8 hp;clear h hk hps hp hpo hrun hV0 hte;go_enter func37,ntmps37;go_wp2_with fail;obtain⟨W0,hW0⟩:∃ W0,w.alloc (.cells #[.bool false,.slice none 0 0] 74)=W0:=⟨_,rfl⟩;have HX0:Hid (q9 (fun _=>False) w W0):=by rw[<- hW0];exact(q9.refl _ w).alloc _
 have KR:Hid (W0.heap[w.heap.size]?=some (.cells #[.bool false,.slice none 0 0] 74)):=by rw[<- hW0];exact heap_alloc_new w _
 rw[hW0];clear hW0
 go_region_law (go_simp;go_wp2_with (first|(go_at_call 39;refine(HC1.out W0.drew HX0.out.drew).mono ?_;rintro e w1 ⟨tv,rfl,hx1,ht1⟩;obtain⟨ta,tc,rfl⟩:=Q0 ht1;have HX1:Hid (q9 (fun _=>False) W0 w1):=((q9.refl (fun _=>False) W0).drew).trans hx1;have HT1:=q8 ht1;clear hx1 ht1)|(go_at_call 58;refine(HC2.out w1 (HX0.out.trans HX1.out)).mono ?_;rintro e w2 ⟨av,rfl,hx2,ha2⟩;obtain⟨aa,ac,rfl⟩:=Q0 ha2;have HX2:=q8 hx2;have HA2:=q8 ha2;clear hx2 ha2)))
 all_goals
  go_wp2_with fail;refine(HC3.out w2 ((HX0.out.trans HX1.out).trans HX2.out)).mono ?_;rintro e w3 ⟨b,v,l,rfl,hb,hx3,hws,hll,hl⟩;obtain⟨cap,cur,rfl,hcap,kws⟩:=hws.shape;have HX3:Hid (q9 (fun _=>False) w w3):=((HX0.out.trans HX1.out).trans HX2.out).trans hx3;have KR3:Hid (w3.heap[w.heap.size]?=some (.cells #[.bool false,.slice none 0 0] 74)):=(((HX1.out.trans HX2.out).trans hx3).block _ (z8 KR.out) (fun f=>f)).trans KR.out;have HWS:=q8 hws;have HLL:=q8 hll;have HL:=q8 hl;have HNEW:Hid (∀ W,q9 (fun _=>False) w3 W->Calls prog 61 #[.slice ta T.length tc,.slice aa A.length ac] W fun e w'=>∃ hb g c X,e=.returned (.pointer (some ⟨hb,0,none⟩))/\q9 (fun _=>False) W w'/\W.heap.size<=hb/\W.heap.size<=g/\c.sv=.slice none 0 0/\ThR w' hb g c (keys T) (pas T A) (zQ0 (keys T)) [] [X]/\ThG (zi3 (keys T) (pas T A)) [] X):=fun W hW=>by
   refine qM8 (TK:=keys T) (AK:=pas T A) ?_ ?_ (by rw[Y3];exact hT) (by rw[zi4];exact hA) HPO.out.kok ⟨u0,HV0.out⟩
   ·rw[Y3];exact z7 (z7 (z7 HT1.out HX2.out (fun _ _ f=>f)) hx3 (fun _ _ f=>f)) hW (fun _ _ f=>f)
   ·rw[zi4,<- qL5];exact z7 (z7 HA2.out hx3 (fun _ _ f=>f)) hW (fun _ _ f=>f)
  have HRUN:Hid (∀ W hb g c X,q9 (fun _=>False) w3 W->w3.heap.size<=hb->w3.heap.size<=g->c.sv=.slice none 0 0->ThR W hb g c (keys T) (pas T A) (zQ0 (keys T)) [] [X]->ThG (zi3 (keys T) (pas T A)) [] X ->
    Calls prog 60 #[.iface 139 (.pointer (some ⟨hb,0,none⟩)),.int .i64 A.length,.slice (some ⟨b,0,none⟩) l.length cap] W fun e w'=>∃ r mv,e=.returned (.agg #[.bool r,mv])/\q9 (fun _=>False) w w'/\w'.heap[w.heap.size]?=some (.cells #[.bool false,.slice none 0 0] 74)/\(r=true↔Sat ps)/\(r=true->∃ u,Fits T A ps u/\w'.ownsRow 0 3 1 mv T.length ((List.range T.length).map fun i=>.int .i64 (u i)))/\(r=false->mv=.slice none 0 0)):=by
   intro W hb2 g c X hW h1 h2 h3 h4 h5;have hR:=qL9 (B:=w3.heap.size) (l:=l) (b:=b) HR.out h4 h5 (hws.ext hW (fun f=>f)) (by rw[zi4];exact hll) ((HPT.out.ext HX3.out (fun f=>f)).ext hW (fun f=>f)) (Nat.lt_of_lt_of_le (z8 HPT.out) HX3.out.size) hW.size ⟨h1,h2⟩ (fun k hk=>by rw[h3] at hk;simp[Value.ownBlock] at hk);rw[zi4,Y3] at hR;refine hR.mono ?_;rintro e w' ⟨r,mv,rfl,hbl,ht,hf⟩;have hxw:=qw1 hW hbl;refine⟨r,mv,rfl,HX3.out.trans hxw,(hxw.block _ (z8 KR3.out) (fun f=>f)).trans KR3.out,⟨fun e=>?_,fun hs=>?_⟩,fun e=>?_,fun e=>(hf e).1⟩
   ·obtain⟨vals,hv,⟨x,hx,hh,hw⟩,_⟩:=ht e;refine jq9 HPO.out HPS.out hv (n:=x) (fun f hf=>?_) hw;have hlx:=hl x (by rw[<- hll];rw[hll];unfold nw at hx;rw[zi4] at hx;exact hx);rw[hh] at hlx;exact List.all_eq_true.1 hlx.symm _ (List.mem_map.2 ⟨f,hf,rfl⟩)
   ·cases r with
    | true=>rfl
    | false=>
     obtain⟨uu,n,hV,hn,hfs,hw⟩:=qW9 HPO.out HPS.out hs;have hn2:n<64*2^(A.length-6):=by refine Nat.lt_of_lt_of_le hn ?_;rw[show 64=2^6 from rfl,<- Nat.pow_add];exact Nat.pow_le_pow_right (by omega) (by omega)
     have hlx:=hl n hn2;have hall:(ps.map (ftr (alpha A n))).all id=true:=List.all_eq_true.2 (fun y hy=>by obtain⟨f,hf,rfl⟩:=List.mem_map.1 hy;exact hfs f hf)
     exact absurd hw ((hf rfl).2 uu hV n (by unfold nw;rw[zi4];exact hn2) (hlx.trans hall))
   ·obtain⟨vals,hv,⟨x,hx,hh,hw⟩,hrow,_⟩:=ht e;have hlx:=hl x (by unfold nw at hx;rw[zi4] at hx;exact hx);rw[hh] at hlx;exact⟨vals,⟨hv,x,fun f hf=>List.all_eq_true.1 hlx.symm _ (List.mem_map.2 ⟨f,hf,rfl⟩),hw⟩,hrow⟩
  clear hx3 hws hll hl kws HC1 HC2 HC3;go_wp2_with fail;refine(HNEW.out w3 (q9.refl _ _)).mono ?_;rintro e w4 ⟨hb2,g,c,X,rfl,hx4,q1,q2,q3,q4,q5⟩;have HC5:=q8 (HRUN.out w4 hb2 g c X hx4 q1 q2 q3 q4 q5);clear hx4 q1 q2 q3 q4 q5 HNEW HRUN;go_wp2_with fail;refine HC5.out.mono ?_;rintro e w5 ⟨r,mv,rfl,hx5,k5,hr5,ht5,hf5⟩;obtain⟨ma,mn,mc,rfl⟩:∃ ma mn mc,mv=.slice ma mn mc:=by
   cases r with
   | true=>obtain⟨_,_,hrow⟩:=ht5 rfl;obtain⟨a,cc,e⟩:=Q0 hrow;exact⟨a,_,cc,e⟩
   | false=>exact⟨_,_,_,hf5 rfl⟩
  have a0:=z6 k5 0;have a1:=z6 k5 1;have af0:=Q8 k5 0;have af1:=Q8 k5 1;have hkl:=z8 k5;have HX5:=q8 hx5;have HR5:=q8 hr5;have HT5:=q8 ht5;have K5:=q8 k5;clear hx5 hr5 ht5 hf5 HC5 k5;go_wp2_with fail;refine bodyPost_ret (v:=.agg #[.bool r,.slice ma mn mc]) (by simp[results,results37,go_sem,a0,a1]) rfl ⟨r,_,rfl,?_,HR5.out,fun e=>?_,_,_,_,rfl⟩
  ·exact(HX5.out.setCell (p:=⟨w.heap.size,0,none⟩) (fun h=>absurd h (Nat.lt_irrefl _)) _).setCell (p:=⟨w.heap.size,1,none⟩) (fun h=>absurd h (Nat.lt_irrefl _)) _
  ·obtain⟨u,hu,hrow⟩:=HT5.out e;refine⟨u,hu,z7 hrow (((q9.refl (fun i=>i=w.heap.size) w5).setCell (p:=⟨w.heap.size,0,none⟩) (fun _=>rfl) _).setCell (p:=⟨w.heap.size,1,none⟩) (fun _=>rfl) _) (fun k hk e2=>?_)⟩;subst e2;exact Z7 hrow K5.out (by decide) hk
end
theorem qS7{f:Nd}(h:zk1 f):∀ x,x∈J0 true f->∃ y,y∈J0 false f:=by
 induction h with
 | truth _=>intro x hx;simp[J0,Z0,O7] at hx
 | con _ hp ih=>intro x hx;simp only[J0] at hx ⊢;rw[if_neg (by simp[O7])] at hx;obtain⟨q,hq,hx⟩:=Y9.1 (by simpa using hx);obtain⟨y,hy⟩:=ih q hq x hx;refine⟨y,?_⟩;rw[if_neg (by simp[O7])];simpa using Y9.2 ⟨q,hq,hy⟩
 | two hw ha hb=>intro x _;exact⟨_,by rw[J0,if_pos (by simp[O7])];exact List.mem_append_left _ (List.mem_singleton.2 rfl)⟩
 | le hw ha hb h1 h2=>intro x _;exact⟨_,by rw[J0,if_pos (by simp[O7])];exact List.mem_append_left _ (List.mem_singleton.2 rfl)⟩
section
variable{w w':World}{sb:Nat}{N:List Nm}{L:List (Nd × Int)}{T A:List Nd}{K:List Fr4}{nv:Value}{xs:PX}{D:Nat->Prop}{Y:List (List Value)}
theorem Stk.te(h:Stk N L T A K):A=[]->T=[]:=by
 intro e;cases hT:T with
 | nil=>rfl
 | cons x r=>obtain⟨p,hp,hx⟩:=(h.ts.mem x).1 (by rw[hT];simp);obtain⟨y,hy⟩:=qS7 (h.ok p hp) x hx;have:=(h.aw.mem y).2 ⟨p,hp,hy⟩;rw[e] at this;simp at this
theorem PL.kids(h:PL w sb N L T A K nv xs D Y):zn0 w (fun k=>D k\/xs.fs.ownBlock=some k) A (L.map Prod.fst) xs.fs:=by
 refine⟨Y,by rw[List.length_map,<- h.yl];exact h.ss.fown.1,h.ss.fown.2,by rw[List.length_map];exact h.yl,fun g hg=>.inr hg,fun i cs p h1 h2=>?_⟩;rw[List.getElem?_map] at h2;cases e:L[i]? with
 | none=>rw[e] at h2;simp at h2
 | some q=>
  rw[e] at h2;obtain rfl:q.1=p:=by simpa using h2
  exact(h.ft i cs q h1 e).mono (fun k _ hd=>.inl hd)
def CkP(w:World)(sb:Nat)(L:List (Nd × Int))(T A:List Nd)(nv:Value)(xs:PX)(e:Ending)(w':World):Prop :=
 ∃ r vd ml,e=.returned (.bool r)/\(r=true↔Sat (L.map Prod.fst))/\q9 (fun k=>k=sb) w w'/\w'.heap[sb]?=some (.cells #[nv,xs.ts,xs.tm,xs.at_,xs.am,xs.fs,xs.ks,.int .i64 vd,ml] 98) /\
  (r=true->vd=1/\∃ mb u,ml=.map (some mb)/\w.heap.size<=mb/\Fits T A (L.map Prod.fst) u/\MdW w' mb T.length (keys T) u T.length)/\(r=false->vd=2/\ml=.map none)
theorem zV2(h:PL w sb N L T A K nv xs D Y)(hp:K9 w):Calls prog 17 #[.pointer (some ⟨sb,0,none⟩)] w (CkP w sb L T A nv xs):=by
 have hpo:O3 T A:=⟨h.ss.p.ts.cl,h.ss.p.ts.nd,h.ss.p.ac,h.ss.p.nd⟩;have hps:∀ p∈L.map Prod.fst,FmW p/\∀ x∈J0 false p,x∈A:=by intro p hp;obtain⟨q,hq,rfl⟩:=List.mem_map.1 hp;exact⟨h.fw q hq,fun x hx=>(h.st.aw.mem x).2 ⟨q,hq,hx⟩⟩
 have kb:=h.ss.p.ts.blk;obtain⟨fa,fc,e1⟩:=Q0 h.ss.fown.1;have hkd:=h.kids;have hT:=h.ss.tfew;have hA:=h.ss.afew;obtain⟨ts,tm,at_,am,fs,ks,vd,ml⟩:=xs;simp only at e1;subst e1;have c5:=z6 kb 5;have hsb:=z8 kb;have HC1:Hid (∀ W,q9 (fun _=>False) w W->Calls prog 37 #[.pointer (some ⟨sb,0,none⟩),.slice fa Y.length fc] W fun e w'=>∃ r mv,e=.returned (.agg #[.bool r,mv])/\q9 (fun _=>False) W w'/\(r=true↔Sat (L.map Prod.fst))/\(r=true->∃ u,Fits T A (L.map Prod.fst) u/\w'.ownsRow 0 3 1 mv T.length ((List.range T.length).map fun i=>.int .i64 (u i)))/\∃ ma mn mc,mv=.slice ma mn mc):=fun W hx=>
  zR2 (h.ss.p.ext hx (fun _ _ f=>f)) hT hA h.st.te (hkd.ext hx (fun _ _ _ f=>f)) hps (hp.ext hx (fun f=>f))
 have HC2:Hid (∀ W,q9 (fun _=>False) w W->Calls prog 39 #[.pointer (some ⟨sb,1,none⟩)] W fun e w'=>∃ v',e=.returned v'/\q9 (fun _=>False) W w'/\w'.ownsRow 0 145 6 v' T.length ((keys T).flatMap Z3.cells)):=fun W hx=>zX8 (h.ss.p.ext hx (fun _ _ f=>f)) hT
 have HPO:=q8 hpo;have KB:=q8 kb;clear h hpo hps kb hkd hp;go_enter func17,ntmps17;go_wp2_with fail;refine(HC1.out w (q9.refl _ _)).mono ?_;rintro e w1 ⟨r,mv,rfl,hx1,hr1,ht1,ma,mn,mc,rfl⟩;have k1:=(hx1.block _ hsb (fun f=>f)).trans KB.out;have hl1:=z8 k1;have b7:=z6 k1 7;have b8:=z6 k1 8;have f7:=Q8 k1 7;have f8:=Q8 k1 8;have K1:=q8 k1;have HX1:=q8 hx1;have hne:¬sb=w1.heap.size:=by omega
 cases r with
 | false=>
  have HNS:Hid (¬Sat (L.map Prod.fst)):=fun hs=>by have:=hr1.2 hs;simp at this
  clear k1 hx1 hr1 ht1 HC1;go_wp2_with fail;go_ret;have hlx:(((w1.setCell ⟨sb,7,none⟩ (.int .i64 2)).setCell ⟨sb,8,none⟩ (.map none))).heap.size=w1.heap.size:=by simp
  refine⟨false,2,.map none,rfl,⟨fun e=>by simp at e,fun hs=>absurd hs HNS.out⟩,?_,?_,fun e=>by simp at e,fun _=>⟨rfl,rfl⟩⟩
  ·exact(((HX1.out.mono (T:=fun k=>k=sb) (fun _ _ f=>f.elim)).setCell (p:=⟨sb,7,none⟩) (fun _=>rfl) _).setCell (p:=⟨sb,8,none⟩) (fun _=>rfl) _).alloc _
  ·rw[heap_alloc_old _ _ (by rw[hlx];exact hl1)];exact Y4 (Y4 K1.out 7 _) 8 _
 | true=>
  have HSA:Hid (Sat (L.map Prod.fst)):=hr1.1 rfl;obtain⟨u,hu,hrow⟩:=ht1 rfl;obtain⟨ma2,mc2,e2⟩:=Q0 hrow;cases e2;have HU:=q8 hu;have HROW:=q8 hrow;have HMO:=q8 (jl5 HPO.out hT hu.1);clear k1 hx1 hr1 ht1 HC1 hu hrow;obtain⟨W0,hW0⟩:∃ W0,w1.alloc (.cells #[.bool true,.slice ma T.length mc] 74)=W0:=⟨_,rfl⟩;have HX0:Hid (q9 (fun _=>False) w1 W0):=by rw[<- hW0];exact(q9.refl _ w1).alloc _
  have KA:Hid (W0.heap[w1.heap.size]?=some (.cells #[.bool true,.slice ma T.length mc] 74)):=by rw[<- hW0];exact heap_alloc_new w1 _
  have HM:Hid (∀ W tv,q9 (fun _=>False) w1 W->W.ownsRow 0 145 6 tv T.length ((keys T).flatMap Z3.cells)->Calls prog 38 #[tv,.slice ma T.length mc] W fun e w'=>∃ mb,e=.returned (.agg #[.map (some mb)])/\q9 (fun _=>False) W w'/\W.heap.size<=mb/\MdW w' mb T.length (keys T) u T.length):=fun W tv hW ht=>by have hm:=qM9 (w:=W) (tv:=tv) (TK:=keys T) (u:=u) (na:=ma) (nc:=mc) (by rw[Y3];exact ht) (by rw[Y3];exact z7 HROW.out hW (fun _ _ f=>f)) (by rw[Y3];exact hT) HMO.out;rw[Y3] at hm;exact hm
  have HW0:=q8 hW0;clear hW0;go_wp2_with fail;rw[HW0.out];clear HW0 b7 b8 f7 f8;have z0:=z6 KA.out 0;have z1:=z6 KA.out 1
  go_region_law (go_simp;go_wp2_with (first|(go_at_call 39;refine(HC2.out W0.drew (HX1.out.trans HX0.out.drew)).mono ?_;rintro e w2 ⟨tv,rfl,hx2,ht2⟩;obtain⟨ta,tc,rfl⟩:=Q0 ht2;have HX2:Hid (q9 (fun _=>False) W0 w2):=((q9.refl (fun _=>False) W0).drew).trans hx2;have HT2:=q8 ht2;have ka2:=(HX2.out.block _ (z8 KA.out) (fun f=>f)).trans KA.out;have a0:=z6 ka2 0;have a1:=z6 ka2 1;clear hx2 ht2)|(go_at_call 38;refine(HM.out w2 _ (HX0.out.trans HX2.out) HT2.out).mono ?_;rintro e w3 ⟨mb,rfl,hx3,hmb,hmd⟩;have HX3:=q8 hx3;have HMD:=q8 hmd;have HMB:=q8 hmb;have k3:=(((HX0.out.trans HX2.out).trans hx3).block _ hl1 (fun f=>f)).trans K1.out;have b7:=z6 k3 7;have b8:=z6 k3 8;have f7:=Q8 k3 7;have f8:=Q8 k3 8;have ka3:=(hx3.block _ (z8 ka2) (fun f=>f)).trans ka2;have a30:=z6 ka3 0;have K3:=q8 k3;have hl3:=z8 k3;clear hx3 hmd hmb k3 ka3)))
  all_goals
   go_wp2_with fail;go_ret;have hx3:q9 (fun _=>False) w w3:=HX1.out.trans ((HX0.out.trans HX2.out).trans HX3.out);have hs2:w.heap.size<=w2.heap.size:=(HX1.out.trans (HX0.out.trans HX2.out)).size;have hxs:q9 (fun k=>k=sb) w3 ((w3.setCell ⟨sb,7,none⟩ (.int .i64 1)).setCell ⟨sb,8,none⟩ (.map (some mb))):=((q9.refl (fun k=>k=sb) w3).setCell (p:=⟨sb,7,none⟩) (fun _=>rfl) _).setCell (p:=⟨sb,8,none⟩) (fun _=>rfl) _;have hmb:=HMB.out;exact⟨true,1,.map (some mb),rfl,⟨fun _=>HSA.out,fun _=>rfl⟩,(hx3.mono (fun _ _ f=>f.elim)).trans hxs,Y4 (Y4 K3.out 7 _) 8 _,fun _=>⟨rfl,mb,u,rfl,by omega,HU.out,HMD.out.ext hxs (by omega)⟩,fun e=>by simp at e⟩
end
theorem qa3{N:List Nm}(hN:zA8 N){l:List UInt8}{nd:Nd}{ts:List Tk}(h:W7 N l=.ok nd ts):FmW nd:=by
 unfold W7 at h;split at h
 ·simp at h
 ·simp at h
 ·rename_i nd' t us hr;split at h
  ·simp at h;obtain⟨rfl,_⟩:=h;exact qk9 hN _ _ _ _ _ hr
  ·simp at h
section
variable{w w0 w':World}{sb:Nat}{N N':List Nm}{L L':List (Nd × Int)}{d d':Nat}{F G:Nat->Prop}
theorem je5(w:World):Calls prog 36 #[] w fun e w'=>e=.returned (.pointer (some ⟨w.heap.size,0,none⟩))/\q9 (fun _=>False) w w'/\∃ F,Ses w' w.heap.size [] [] 0 F/\∀ k,F k->w.heap.size<=k:=by
 refine(ju9 w).mono ?_;rintro e w' ⟨rfl,hx,hP,hs⟩;refine⟨rfl,hx,_,⟨[],[],[],.slice none 0 0,px0,fun _=>False,[],⟨jk2 hP,rfl,by simp,jh4,by simp,fun _ f=>f.elim⟩,rfl,rfl⟩,fun k hk=>?_⟩;rcases hk with hk|hk
 ·rcases jr9.1 hk with e|e
  ·omega
  ·simp[Value.ownBlock] at e
 ·exact hk.elim
theorem qj1(h:Ses w sb N L d F)(s:ByteArray)(a:Int)(hs:s.size<=maxLen):
  Calls prog 20 #[.pointer (some ⟨sb,0,none⟩),.string s,.int .i64 a] w fun e w'=>e=.returned (.int .i64 (K8 N s.toList a))/\zM7 w F sb (za7 N d s a) L d w':=by
 obtain⟨T,A,K,nv,xs,D,Y,hP,rfl,rfl⟩:=h;refine(qw6 K.length s a hP.ss.ps hs).mono ?_;rintro e w' hd;obtain⟨he,hS⟩:=qx0 hP.ss hd;exact⟨he,hP.same hS (hP.st.decl s a)⟩
theorem qT1(h:Ses w sb N L d F)(hd:d<20):
  Calls prog 18 #[.pointer (some ⟨sb,0,none⟩)] w fun e w'=>e=.returned (.int .i64 0)/\zM7 w F sb N L (d+1) w':=by
 obtain⟨T,A,K,nv,xs,D,Y,hP,rfl,rfl⟩:=h;refine(jo4 hP.ss hd).mono ?_;rintro e w' ⟨rfl,hS⟩;rw[hP.yl] at hS;have:=hP.same hS hP.st.push;rw[List.length_append,List.length_singleton] at this;exact⟨rfl,this⟩
theorem je6(h:Ses w sb N L (d+1) F):
  Calls prog 19 #[.pointer (some ⟨sb,0,none⟩)] w fun e w'=>e=.returned (.int .i64 0)/\zM7 w F sb (N.filter (fun x=>decide (x.fr<(d:Int)+1))) (L.filter (fun x=>decide (x.2<(d:Int)+1))) d w':=by
 obtain⟨T,A,K,nv,xs,D,Y,hP,hd,rfl⟩:=h;obtain⟨K,fr,rfl⟩:∃ K' fr,K=K'++[fr]:=by
  have hne:K≠[]:=by intro e;rw[e] at hd;simp at hd
  exact⟨K.dropLast,K.getLast hne,(List.dropLast_concat_getLast hne).symm⟩
 have hd2:K.length=d:=by simpa using hd
 subst hd2;have hl:=hP.st.fit K.length fr (by simp);refine(js5 hP.ss hl.n hl.t hl.a (by rw[hP.yl];exact hl.f) hP.st.ac).mono ?_;rintro e w' ⟨rfl,hS⟩;exact⟨rfl,hP.popped hS⟩
theorem qs7(h:Ses w sb N L d F)(s:ByteArray)(hm:s.size<=maxLen)(hhd:U4 w):
  Calls prog 25 #[.pointer (some ⟨sb,0,none⟩),.string s] w fun e w'=>e=.returned (.tuple #[.int .i64 (O5 N (L.map Prod.fst) s).1,.int .i64 (O5 N (L.map Prod.fst) s).2.1])/\zM7 w F sb N (L++zE7 (O5 N (L.map Prod.fst) s).2.2 d) d w':=by
 have h0:=h;obtain⟨T,A,K,nv,xs,D,Y,hP,rfl,rfl⟩:=h;by_cases hs:600<s.size
 ·rw[qu2 hs];refine(jc3 s hP.ss hs hm).mono ?_;rintro e w' ⟨rfl,hS⟩;refine⟨rfl,?_⟩;have:=hP.same hS hP.st;simpa[zE7] using this
 ·cases hr:W7 N s.toList with
  | no e p=>rw[qV2 (by omega) hr];refine(js6 s hP.ss (by omega) hhd hr).mono ?_;rintro e w' ⟨rfl,hS⟩;refine⟨rfl,?_⟩;have:=hP.same hS hP.st;simpa[zE7] using this
  | ok nd us=>
   by_cases hf:20<=L.length
   ·rw[qu3 (by omega) hr (by simpa using hf)];refine(jc4 s hP.ss (by omega) hhd hr (by rw[hP.yl];exact hf)).mono ?_;rintro e w' ⟨rfl,hS⟩;refine⟨rfl,?_⟩;have:=hP.same hS hP.st;simpa[zE7] using this
   ·refine(jc7 s hP.ss (by omega) hhd hr (by rw[hP.yl];omega)).mono ?_;rintro e w' ⟨T',A',hT,hA,rfl,h1,h2⟩;have hok:=zG6 hP.ss.ok hr;have hcode:=qu1 hP.st (by omega) hr hok (by omega) hT hA (hT.nd hP.ss.p.ts.nd) (hA.nd hP.ss.p.nd);rw[hcode];refine⟨rfl,?_⟩;by_cases hc:ze9 T'.length A'.length=0
    ·obtain⟨cs,hS,hft⟩:=h1 hc;have:=hP.took hS hft hT hA hok (qa3 hP.ss.ok hr);simp only[hc,if_true,zE7];exact this
    ·have:=hP.same (h2 hc) hP.st;simp only[if_neg hc,zE7,List.append_nil];exact this
theorem qH9(h:Ses w sb N L d F)(hp:K9 w):
  Calls prog 17 #[.pointer (some ⟨sb,0,none⟩)] w fun e w'=>∃ r,e=.returned (.bool r)/\(r=true↔Sat (L.map Prod.fst))/\zM7 w F sb N L d w':=by
 obtain⟨T,A,K,nv,xs,D,Y,hP,rfl,rfl⟩:=h;refine(zV2 hP hp).mono ?_;rintro e w' ⟨r,vd,ml,rfl,hr,hx,kb,_,_⟩;refine⟨r,rfl,hr,?_⟩;have hS:ze4 w sb nv xs N T A Y K w':=⟨hx.mono (fun _ _ e=>.inl (.inl (.inl e))),nv,{ xs with vd:=.int .i64 vd,ml:=ml },hP.ss.turn _ _ hx kb,fun k hk=>.inl hk⟩;exact hP.same hS hP.st
def KS(w0:World)(G:Nat->Prop)(w:World)(sb:Nat)(N:List Nm)(L:List (Nd × Int))(d:Nat):Prop :=
 q9 (fun _=>False) w0 w/\(∀ k,G k->k<w.heap.size)/\∃ F,Ses w sb N L d F/\∀ k,F k->w0.heap.size<=k/\¬G k
def KP(w0:World)(G:Nat->Prop)(w:World)(sb:Nat)(N:List Nm)(L:List (Nd × Int))(d:Nat)(w':World):Prop :=
 KS w0 G w' sb N L d/\q9 (fun k=>w0.heap.size<=k/\¬G k) w w'
theorem KS.ext{S:Nat->Prop}(h:KS w0 G w sb N L d)(hx:q9 S w w')(hS:∀ k,S k->G k)(hG:∀ k,G k->w0.heap.size<=k):KS w0 G w' sb N L d:=by obtain⟨h1,h2,F,h3,h4⟩:=h;refine⟨h1.trans' hx (fun k hk e=>by have:=hG k (hS k e);omega),fun k hk=>Nat.lt_of_lt_of_le (h2 k hk) hx.size,F,h3.ext hx (fun k hk e=>(h4 k hk).2 (hS k e)),h4⟩
theorem KS.quiet(h:KS w0 G w sb N L d)(hx:q9 (fun _=>False) w w'):KS w0 G w' sb N L d:=by obtain⟨h1,h2,F,h3,h4⟩:=h;exact⟨h1.trans hx,fun k hk=>Nat.lt_of_lt_of_le (h2 k hk) hx.size,F,h3.ext hx (fun _ _ f=>f),h4⟩
theorem KS.guard{G':Nat->Prop}(h:KS w0 G w sb N L d)(hx:q9 (fun _=>False) w w')(hG:∀ k,G' k->G k\/(w.heap.size<=k/\k<w'.heap.size)):KS w0 G' w' sb N L d:=by
 obtain⟨h1,h2,F,h3,h4⟩:=h;refine⟨h1.trans hx,fun k hk=>?_,F,h3.ext hx (fun _ _ f=>f),fun k hk=>⟨(h4 k hk).1,fun e=>?_⟩⟩
 ·rcases hG k hk with e|e
  ·exact Nat.lt_of_lt_of_le (h2 k e) hx.size
  ·exact e.2
 ·rcases hG k e with e|e
  ·exact(h4 k hk).2 e
  ·have:=h3.lt k hk;omega
theorem zM7.kp(h:KS w0 G w sb N L d){F:Nat->Prop}(hF:∀ k,F k->w0.heap.size<=k/\¬G k)(hp:zM7 w F sb N' L' d' w'):KP w0 G w sb N' L' d' w':=by
 obtain⟨h1,h2,_⟩:=h;obtain⟨hx,F',h3,h4⟩:=hp;refine⟨⟨h1.trans' hx (fun k hk e=>by have:=(hF k e).1;omega),fun k hk=>Nat.lt_of_lt_of_le (h2 k hk) hx.size,F',h3,fun k hk=>?_⟩,hx.mono (fun k _ e=>hF k e)⟩;rcases h4 k hk with e|e
 ·exact hF k e
 ·exact⟨Nat.le_trans h1.size e,fun g=>by have:=h2 k g;omega⟩
theorem qI0(h:KS w0 G w sb N L d)(s:ByteArray)(a:Int)(hs:s.size<=maxLen):
  Calls prog 20 #[.pointer (some ⟨sb,0,none⟩),.string s,.int .i64 a] w fun e w'=>e=.returned (.int .i64 (K8 N s.toList a))/\KP w0 G w sb (za7 N d s a) L d w':=by
 obtain⟨F,h3,h4⟩:=h.2.2;refine(qj1 h3 s a hs).mono ?_;rintro e w' ⟨rfl,hp⟩;exact⟨rfl,hp.kp h h4⟩
theorem jp7(h:KS w0 G w sb N L d)(hd:d<20):
  Calls prog 18 #[.pointer (some ⟨sb,0,none⟩)] w fun e w'=>e=.returned (.int .i64 0)/\KP w0 G w sb N L (d+1) w':=by
 obtain⟨F,h3,h4⟩:=h.2.2;refine(qT1 h3 hd).mono ?_;rintro e w' ⟨rfl,hp⟩;exact⟨rfl,hp.kp h h4⟩
theorem jt7(h:KS w0 G w sb N L (d+1)):
  Calls prog 19 #[.pointer (some ⟨sb,0,none⟩)] w fun e w'=>e=.returned (.int .i64 0)/\KP w0 G w sb (N.filter (fun x=>decide (x.fr<(d:Int)+1))) (L.filter (fun x=>decide (x.2<(d:Int)+1))) d w':=by
 obtain⟨F,h3,h4⟩:=h.2.2;refine(je6 h3).mono ?_;rintro e w' ⟨rfl,hp⟩;exact⟨rfl,hp.kp h h4⟩
theorem zN1(h:KS w0 G w sb N L d)(s:ByteArray)(hm:s.size<=maxLen)(hhd:U4 w0):
  Calls prog 25 #[.pointer (some ⟨sb,0,none⟩),.string s] w fun e w'=>e=.returned (.tuple #[.int .i64 (O5 N (L.map Prod.fst) s).1,.int .i64 (O5 N (L.map Prod.fst) s).2.1])/\KP w0 G w sb N (L++zE7 (O5 N (L.map Prod.fst) s).2.2 d) d w':=by
 obtain⟨F,h3,h4⟩:=h.2.2;refine(qs7 h3 s hm (hhd.ext h.1 (fun f=>f))).mono ?_;rintro e w' ⟨rfl,hp⟩;exact⟨rfl,hp.kp h h4⟩
theorem qa4(h:KS w0 G w sb N L d)(hp:K9 w0):
  Calls prog 17 #[.pointer (some ⟨sb,0,none⟩)] w fun e w'=>∃ r,e=.returned (.bool r)/\(r=true↔Sat (L.map Prod.fst))/\KP w0 G w sb N L d w':=by
 obtain⟨F,h3,h4⟩:=h.2.2;refine(qH9 h3 (hp.ext h.1 (fun f=>f))).mono ?_;rintro e w' ⟨r,rfl,hr,hp⟩;exact⟨r,rfl,hr,hp.kp h h4⟩
end
def kX:ByteArray:=⟨#[120]⟩
def kY:ByteArray:=⟨#[121]⟩
def kZ:ByteArray:=⟨#[122]⟩
def kF:ByteArray:=⟨#[102]⟩
def kG:ByteArray:=⟨#[103]⟩
def kEq:ByteArray:=⟨#[61]⟩
def jt8:ByteArray:=⟨#[110,111,116]⟩
def kT1:ByteArray:=⟨#[40,61,32,120,32,121,41]⟩
def kT2:ByteArray:=⟨#[40,110,111,116,32,40,61,32,40,102,32,120,41,32,40,102,32,121,41,41,41]⟩
def zd6:List Nm:=[⟨kX,0,0⟩,⟨kY,0,0⟩,⟨kZ,0,0⟩,⟨kF,1,0⟩,⟨kG,2,0⟩]
def nX:Nd:=.mk 3 kX 0 []
def nY:Nd:=.mk 3 kY 0 []
def nEq(a b:Nd):Nd:=.mk 2 kEq 0 [a,b]
def qI8(a:Nd):Nd:=.mk 1 jt8 0 [a]
def nF1(a:Nd):Nd:=.mk 3 kF 0 [a]
def nm5(i:Nat):ByteArray:=[kX,kY,kZ,kF,kG].getD i kX
def ar5(i:Nat):Int:=[0,0,0,1,2].getD i 0
theorem jf3:K8 (zd6.take 0) (nm5 0).toList (ar5 0)=0:=by kernel_rfl
theorem jf4:K8 (zd6.take 1) (nm5 1).toList (ar5 1)=0:=by kernel_rfl
theorem jf5:K8 (zd6.take 2) (nm5 2).toList (ar5 2)=0:=by kernel_rfl
theorem jf6:K8 (zd6.take 3) (nm5 3).toList (ar5 3)=0:=by kernel_rfl
theorem jf7:K8 (zd6.take 4) (nm5 4).toList (ar5 4)=0:=by kernel_rfl
theorem zV7(i:Nat)(hi:i<5):K8 (zd6.take i) (nm5 i).toList (ar5 i)=0:=by
 match i,hi with
 | 0,_=>exact jf3
 | 1,_=>exact jf4
 | 2,_=>exact jf5
 | 3,_=>exact jf6
 | 4,_=>exact jf7
theorem qI9(i:Nat)(hi:i<5):za7 (zd6.take i) 0 (nm5 i) (ar5 i)=zd6.take (i+1):=by
 rw[za7,if_pos (zV7 i hi)]
 match i,hi with
 | 0,_=>rfl
 | 1,_=>rfl
 | 2,_=>rfl
 | 3,_=>rfl
 | 4,_=>rfl
theorem jf8(i:Nat)(hi:i<5):(#[.string ⟨#[120]⟩,.string ⟨#[121]⟩,.string ⟨#[122]⟩,.string ⟨#[102]⟩,.string ⟨#[103]⟩]:Array Value)[i]?=some (.string (nm5 i)):=by
 match i,hi with
 | 0,_=>rfl
 | 1,_=>rfl
 | 2,_=>rfl
 | 3,_=>rfl
 | 4,_=>rfl
theorem jf9(i:Nat)(hi:i<5):(#[.int .i64 0,.int .i64 0,.int .i64 0,.int .i64 1,.int .i64 2]:Array Value)[i]?=some (.int .i64 (ar5 i)):=by
 match i,hi with
 | 0,_=>rfl
 | 1,_=>rfl
 | 2,_=>rfl
 | 3,_=>rfl
 | 4,_=>rfl
theorem qT8(i:Nat)(hi:i<5):(nm5 i).size<=maxLen:=by
 match i,hi with
 | 0,_=>decide
 | 1,_=>decide
 | 2,_=>decide
 | 3,_=>decide
 | 4,_=>decide
theorem jq0:O5 zd6 [] kT1=(0,0,some (nEq nX nY)):=by kernel_rfl
theorem jq1:O5 zd6 [nEq nX nY] kT2=(0,0,some (qI8 (nEq (nF1 nX) (nF1 nY)))):=by kernel_rfl
theorem jt9:kEq.toList=[61]:=by rw[ByteArray.toList_eq];rfl
theorem jq2:jt8.toList=zk0:=by rw[ByteArray.toList_eq];rfl
theorem qt3(I:Itp)(a b:Nd):ftr (zd7 (Y1 I)) (nEq a b)=decide (Y1 I a=Y1 I b):=by unfold nEq;rw[ftr,if_pos rfl,zd7,zi2,jt9,if_pos rfl]
theorem jg0(α:Nd->Bool)(f:Nd):ftr α (qI8 f) = !(ftr α f):=by
 unfold qI8;rw[ftr,if_neg (by decide),if_neg (by decide),con,jq2,if_pos rfl,qb1]
 rfl
theorem jg1:Sat [nEq nX nY]:=⟨fun _ _=>0,fun f hf=>by rw[List.mem_singleton.1 hf,qt3];simp[nX,nY,Y1]⟩
theorem jg2:¬Sat [nEq nX nY,qI8 (nEq (nF1 nX) (nF1 nY))]:=by
 rintro⟨I,h⟩;have h1:=h (nEq nX nY) (by simp);have h2:=h (qI8 (nEq (nF1 nX) (nF1 nY))) (by simp);rw[qt3] at h1;rw[jg0,qt3] at h2;have e:=of_decide_eq_true h1;have:Y1 I (nF1 nX)=Y1 I (nF1 nY):=by unfold nF1;rw[Y1,if_neg (by decide),Y1,if_neg (by decide),zB9,zB9,zB9,zB9,e]
 simp[this] at h2
def zG3(c n:Int):Int:=if c<0 then -((c+1).tmod n) else c.tmod n
theorem qj4(c n:Int)(hn:0<n):0<=zG3 c n/\zG3 c n<n:=by
 unfold zG3;split
 ·have h:-((c+1).tmod n)=(-(c+1)).tmod n:=(Int.neg_tmod _ _).symm;rw[h];exact⟨Int.tmod_nonneg _ (by omega),Int.tmod_lt_of_pos _ hn⟩
 ·exact⟨Int.tmod_nonneg _ (by omega),Int.tmod_lt_of_pos _ hn⟩
section
variable{w w0:World}{sb:Nat}{N:List Nm}{L:List (Nd × Int)}{d:Nat}{G:Nat->Prop}
def zw2(p c:Int):Int:=if p≠0 then 2 else if c=0 then 0 else if c=9\/c=10\/c=1\/c=8 then 1 else 2
theorem qj6(h:KS w0 G w sb N L d)(s:ByteArray)(hm:s.size<=maxLen)(hhd:U4 w0):
  Calls prog 15 #[.pointer (some ⟨sb,0,none⟩),.string s] w fun e w'=>e=.returned (.int .i64 (zw2 (O5 N (L.map Prod.fst) s).1 (O5 N (L.map Prod.fst) s).2.1))/\KP w0 G w sb N (L++zE7 (O5 N (L.map Prod.fst) s).2.2 d) d w':=by
 have HC:=q8 (zN1 h s hm hhd);clear h hm hhd;obtain⟨o,ho⟩:∃ o,O5 N (L.map Prod.fst) s=o:=⟨_,rfl⟩;rw[ho] at HC;rw[ho];obtain⟨p,c,q⟩:=o;clear ho;simp only at HC ⊢;go_enter func15,ntmps15;go_wp2_with fail;refine HC.out.mono ?_;rintro e w1 ⟨rfl,hp⟩;have HP:=q8 hp;clear hp HC;by_cases hp0:p=0
 ·by_cases hc0:c=0
  ·subst hp0 hc0;go_wp2_with fail;go_ret;exact⟨by simp[zw2],HP.out⟩
  ·by_cases h9:c=9
   ·subst hp0 h9;go_wp2_with fail;go_ret;exact⟨by simp[zw2],HP.out⟩
   ·by_cases h10:c=10
    ·subst hp0 h10;go_wp2_with fail;go_ret;exact⟨by simp[zw2],HP.out⟩
    ·by_cases h1:c=1
     ·subst hp0 h1;go_wp2_with fail;go_ret;exact⟨by simp[zw2],HP.out⟩
     ·by_cases h8:c=8
      ·subst hp0 h8;go_wp2_with fail;go_ret;exact⟨by simp[zw2],HP.out⟩
      ·subst hp0;have e0:(c==0)=false:=by simpa using hc0
       have e9:(c==9)=false:=by simpa using h9
       have e10:(c==10)=false:=by simpa using h10
       have e1:(c==1)=false:=by simpa using h1
       have e8:(c==8)=false:=by simpa using h8
       go_wp2_with fail;go_ret;exact⟨by simp[zw2,hc0,h9,h10,h1,h8],HP.out⟩
 ·have e0:(p==0)=false:=by simpa using hp0
  go_wp2_with fail;go_ret;exact⟨by simp[zw2,hp0],HP.out⟩
theorem qj7(c n:Int)(hc:-9223372036854775808<=c/\c<=9223372036854775807)(hn:0<n/\n<=3000):
  Calls prog 21 #[.int .i64 c,.int .i64 n] w fun e w'=>e=.returned (.int .i64 (zG3 c n))/\q9 (fun _=>False) w w':=by
 have HX:=q8 (q9.refl (fun _=>False) w);by_cases h0:c<0
 ·go_enter func21,ntmps21;go_wp2_with fail;go_ret;exact⟨by simp[zG3,h0],HX.out⟩
 ·go_enter func21,ntmps21;go_wp2_with fail;go_ret;refine⟨?_,HX.out⟩;unfold zG3;rw[if_neg (by omega),Int.tmod_eq_emod_of_nonneg (by omega)]
  rfl
theorem zN4(w:World)(hhd:U4 w)(hpt:K9 w):
  Calls prog 13 #[] w fun e w'=>∃ sb,e=.returned (.pointer (some ⟨sb,0,none⟩))/\KS w (fun _=>False) w' sb zd6 [] 0:=by
 have HHD:=q8 hhd;have HPT:=q8 hpt;clear hhd hpt;go_enter func13,ntmps13;go_wp2_with fail;refine(je5 w).mono ?_;rintro e w1 ⟨rfl,hx1,F,hS1,hF1⟩;have HS1:Hid (KS w (fun _=>False) w1 w.heap.size [] [] 0):=⟨hx1,fun _ f=>f.elim,F,hS1,fun k hk=>⟨hF1 k hk,fun f=>f⟩⟩;clear hx1 hS1 hF1;go_wp2_with fail;obtain⟨W2,hW2⟩:∃ W2,(w1.alloc (.cells #[.string ⟨#[120]⟩,.string ⟨#[121]⟩,.string ⟨#[122]⟩,.string ⟨#[102]⟩,.string ⟨#[103]⟩] 68)).alloc (.cells #[.int .i64 0,.int .i64 0,.int .i64 0,.int .i64 1,.int .i64 2] 69)=W2:=⟨_,rfl⟩;have hx2:q9 (fun _=>False) w1 W2:=by rw[<- hW2];exact((q9.refl _ w1).alloc _).alloc _
 have ka:W2.heap[w1.heap.size]?=some (.cells #[.string ⟨#[120]⟩,.string ⟨#[121]⟩,.string ⟨#[122]⟩,.string ⟨#[102]⟩,.string ⟨#[103]⟩] 68):=by rw[<- hW2,heap_alloc_old _ _ (by simp)];exact heap_alloc_new w1 _
 have kc:W2.heap[w1.heap.size+1]?=some (.cells #[.int .i64 0,.int .i64 0,.int .i64 0,.int .i64 1,.int .i64 2] 69):=by rw[<- hW2];exact heap_alloc2_new w1 _ _
 have hs2:W2.heap.size=w1.heap.size+2:=by rw[<- hW2];simp
 have HK2:Hid (KS w (fun k=>k=w1.heap.size\/k=w1.heap.size+1) W2 w.heap.size [] [] 0):=HS1.out.guard hx2 (fun k hk=>.inr (by omega));have hw1:w.heap.size<w1.heap.size:=HS1.out.2.2.elim (fun F hF=>hF.1.lt _ (by obtain⟨T,A,K,nv,xs,D,Y,hP,_,rfl⟩:=hF.1;exact .inl (.inl (.inl (.inl rfl)))));have KA:=q8 ka;have KC:=q8 kc;rw[hW2];clear hW2 hx2 ka kc HS1;obtain⟨b,hb⟩:∃ b,w1.heap.size=b:=⟨_,rfl⟩;rw[hb] at KA KC HK2 hs2 hw1 ⊢;clear hb
 go_loopw [4] (fun i wr=>∃ j:Nat,j<=5/\i=.int .i64 j/\KS w (fun k=>k=b\/k=b+1) wr w.heap.size (zd6.take j) [] 0/\wr.heap[b]?=some (.cells #[.string ⟨#[120]⟩,.string ⟨#[121]⟩,.string ⟨#[122]⟩,.string ⟨#[102]⟩,.string ⟨#[103]⟩] 68)/\wr.heap[b+1]?=some (.cells #[.int .i64 0,.int .i64 0,.int .i64 0,.int .i64 1,.int .i64 2] 69)) (fun i _=>5-(intOf i).toNat)
 case atStart=>exact⟨0,by omega,rfl,HK2.out,KA.out,KC.out⟩
 case round=>
  clear HK2 KA KC;obtain⟨j,hj,rfl,hS,ka,kc⟩:=hrel;have HS:=q8 hS;have KA:=q8 ka;have KC:=q8 kc;by_cases hlt:j<5
  ·have n0:wr.cell? ⟨b,j,none⟩=some (.string (nm5 j)):=(z6 ka j).trans (jf8 j hlt);have n1:wr.cell? ⟨b+1,j,none⟩=some (.int .i64 (ar5 j)):=(z6 kc j).trans (jf9 j hlt);have HC:Hid (∀ W,q9 (fun _=>False) wr W->Calls prog 20 #[.pointer (some ⟨w.heap.size,0,none⟩),.string (nm5 j),.int .i64 (ar5 j)] W fun e w'=>e=.returned (.int .i64 0)/\KP w (fun k=>k=b\/k=b+1) W w.heap.size (zd6.take (j+1)) [] 0 w'):=fun W hx=>by
    have:=qI0 (hS.quiet hx) (nm5 j) (ar5 j) (qT8 j hlt);rw[zV7 j hlt] at this;have e:=qI9 j hlt;refine this.mono ?_;rintro e' w' ⟨rfl,hp⟩;refine⟨rfl,?_⟩;rw[<- e];exact hp
   clear hS ka kc;go_wp2_with fail
   go_region_law (go_simp;go_wp2_with (go_at_call 20;refine(HC.out wr.drew ((q9.refl (fun _=>False) wr).drew)).mono ?_;rintro e w3 ⟨rfl,hp3⟩;have HP3:=q8 hp3;clear hp3))
   all_goals
    go_wp2_with fail
    go_roundw
    case measure=>simp[intOf];omega
    case rel=>obtain⟨h3,hx3⟩:=HP3.out;exact⟨j+1,by omega,by go_num,h3,(hx3.block b (z8 KA.out) (fun e=>e.2 (.inl rfl))).trans KA.out,(hx3.block (b+1) (z8 KC.out) (fun e=>e.2 (.inr rfl))).trans KC.out⟩
  ·have hj5:j=5:=by omega
   subst hj5;clear ka kc;have hS5:KS w (fun k=>k=b\/k=b+1) wr w.heap.size zd6 [] 0:=hS;have hS6:KS w (fun _=>False) wr w.heap.size zd6 [] 0:=hS5.guard (q9.refl _ _) (fun _ f=>f.elim);have HC1:=q8 (jp7 hS6 (by omega));clear hS hS5 hS6;go_wp2_with fail;refine HC1.out.mono ?_;rintro e w3 ⟨rfl,h3,_⟩;have hc2:=zN1 h3 kT1 (by decide) HHD.out;rw[List.map_nil,jq0] at hc2;have HC2:=q8 hc2;clear h3 hc2 HC1;go_wp2_with fail;refine HC2.out.mono ?_;rintro e w4 ⟨rfl,h4,_⟩;have HC3:=q8 (qa4 h4 HPT.out);have H4:=q8 h4;clear h4 HC2;go_wp2_with fail;refine HC3.out.mono ?_;rintro e w5 ⟨r,rfl,hr,h5,_⟩;obtain rfl:r=true:=hr.2 jg1;have hc4:=zN1 h5 kT2 (by decide) HHD.out;have hc4':O5 zd6 (([]++zE7 (some (nEq nX nY)) ((0+1:Nat):Int)).map Prod.fst) kT2=(0,0,some (qI8 (nEq (nF1 nX) (nF1 nY)))):=jq1;rw[hc4'] at hc4;have HC4:=q8 hc4;clear hr h5 hc4 hc4' HC3;go_wp2_with fail;refine HC4.out.mono ?_;rintro e w6 ⟨rfl,h6,_⟩;have HC5:=q8 (qa4 h6 HPT.out);clear h6 HC4;go_wp2_with fail;refine HC5.out.mono ?_;rintro e w7 ⟨r,rfl,hr,h7,_⟩;obtain rfl:r=false:=by
    cases r with
    | false=>rfl
    | true=>exact absurd (hr.1 rfl) jg2
   have hc6:=jt7 h7;have HC6:Hid (Calls prog 19 #[.pointer (some ⟨w.heap.size,0,none⟩)] w7 fun e w'=>e=.returned (.int .i64 0)/\KS w (fun _=>False) w' w.heap.size zd6 [] 0):=hc6.mono (fun e w' h=>⟨h.1,h.2.1⟩);clear hr h7 hc6 HC5;go_wp2_with fail;refine HC6.out.mono ?_;rintro e w8 ⟨rfl,h8⟩;have H8:=q8 h8;clear h8 HC6;go_wp2_with fail;go_ret;exact⟨w.heap.size,rfl,H8.out⟩
end
theorem zN5{α:Type}[DecidableEq α]:∀ {a b:List α},a.Nodup->(∀ x∈a,x∈b)->a.length<=b.length
 | [],_,_,_=>by simp
 | x::a,b,hn,hs=>by rw[List.nodup_cons] at hn;have hx:=hs x (by simp);have:=zN5 (a:=a) (b:=b.erase x) hn.2 (fun y hy=>(List.mem_erase_of_ne (a:=y) (b:=x) (fun e=>hn.1 (by rw[<- e];exact hy))).2 (hs y (by simp[hy])));rw[List.length_erase_of_mem hx] at this;have h0:0<b.length:=List.length_pos_of_mem hx;simp;omega
theorem qt4(xs:List Nd)(S:List (List UInt8))(h:∀ x∈xs,j9 x∈S):(zs3 [] xs).length<=S.length:=by
 refine zN5 (zA7 List.nodup_nil) (fun g hg=>?_);rcases zN6.1 hg with e|⟨x,hx,rfl⟩
 ·simp at e
 ·exact h x hx
theorem jg3{w w0:World}{sb:Nat}{N:List Nm}{L:List (Nd × Int)}{d:Nat}{G:Nat->Prop}(h:KS w0 G w sb N L d){s:ByteArray}{nd:Nd}(hm:s.size<=maxLen)(hhd:U4 w0)(e:O5 N (L.map Prod.fst) s=(0,0,some nd)):
  Calls prog 15 #[.pointer (some ⟨sb,0,none⟩),.string s] w fun e w'=>e=.returned (.int .i64 0)/\KP w0 G w sb N (L++[(nd,(d:Int))]) d w':=by
 have hc:=qj6 h s hm hhd;rw[e] at hc;exact hc
end Go.Proofs.YtegbdaffhpiacaaGreatDoor
