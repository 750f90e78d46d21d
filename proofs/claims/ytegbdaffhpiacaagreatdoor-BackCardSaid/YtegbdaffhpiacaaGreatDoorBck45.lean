/- The program: Check; A session of the program: what each call answers and leaves; The statements without the document's answer: what they begin with; Plain: a function that leads back in so many rounds; The statements without the document's answer: pick, laid, begun. -/
import Derived.Test.YtegbdaffhpiacaaGreatDoorBck22
import Derived.Test.YtegbdaffhpiacaaGreatDoorBck43
import Derived.Test.YtegbdaffhpiacaaGreatDoorBck44
namespace Go.Proofs.YtegbdaffhpiacaaGreatDoor
open Go.RowKit Go.Maps Ar
theorem qN8 {f:Nd} (h:zi5 f):∀ x,x∈J5 true f->∃ y,y∈J5 false f:=by
 induction h with
 | truth _=>intro x hx;simp [J5,Q8,U9] at hx
 | con _ hp ih =>
  intro x hx
  simp only [J5] at hx ⊢
  rw [if_neg (by simp [U9])] at hx
  obtain ⟨q,hq,hx⟩:=Y9.1 (by simpa using hx)
  obtain ⟨y,hy⟩:=ih q hq x hx
  refine ⟨y,?_⟩
  rw [if_neg (by simp [U9])]
  simpa using Y9.2 ⟨q,hq,hy⟩
 | two hw ha hb=>intro x _;exact ⟨_,by rw [J5,if_pos (by simp [U9])];exact List.mem_append_left _ (List.mem_singleton.2 rfl)⟩
 | le hw ha hb h1 h2=>intro x _;exact ⟨_,by rw [J5,if_pos (by simp [U9])];exact List.mem_append_left _ (List.mem_singleton.2 rfl)⟩
section
variable {w w':World} {sb:Nat} {N:List Nm} {L:List (Nd × Int)} {T A:List Nd} {K:List Fr4} {nv:Value} {xs:PX} {D:Nat->Prop} {Y:List (List Value)}
theorem Stk.te (h:Stk N L T A K):A=[]->T=[]:=by
 intro e
 cases hT:T with
 | nil=>rfl
 | cons x r =>
  obtain ⟨p,hp,hx⟩:=(h.ts.mem x).1 (by rw [hT];simp)
  obtain ⟨y,hy⟩:=qN8 (h.ok p hp) x hx
  have:=(h.aw.mem y).2 ⟨p,hp,hy⟩
  rw [e] at this
  simp at this
theorem PL.kids (h:PL w sb N L T A K nv xs D Y):zn1 w (fun k=>D k\/xs.fs.ownBlock=some k) A (L.map Prod.fst) xs.fs:=by
 refine ⟨Y,by rw [List.length_map,<- h.yl];exact h.ss.fown.1,h.ss.fown.2,by rw [List.length_map];exact h.yl,fun g hg=>.inr hg,fun i cs p h1 h2=>?_⟩
 rw [List.getElem?_map] at h2
 cases e:L[i]? with
 | none=>rw [e] at h2;simp at h2
 | some q =>
  rw [e] at h2
  obtain rfl:q.1=p:=by simpa using h2
  exact (h.ft i cs q h1 e).mono (fun k _ hd=>.inl hd)
def CkP (w:World) (sb:Nat) (L:List (Nd × Int)) (T A:List Nd) (nv:Value) (xs:PX) (e:Ending) (w':World):Prop :=
 ∃ r vd ml,e=.returned (.bool r)/\(r=true↔Sat (L.map Prod.fst))/\q9 (fun k=>k=sb) w w'/\w'.heap[sb]?=some (.cells #[nv,xs.ts,xs.tm,xs.at_,xs.am,xs.fs,xs.ks,.int .i64 vd,ml] 98) /\
  (r=true->vd=1/\∃ mb u,ml=.map (some mb)/\w.heap.size<=mb/\Fits T A (L.map Prod.fst) u/\MdW w' mb T.length (keys T) u T.length)/\(r=false->vd=2/\ml=.map none)
set_option maxRecDepth 100000 in
set_option maxHeartbeats 1000000 in
theorem qD4 (h:PL w sb N L T A K nv xs D Y) (hp:Y2 w):Calls Tryz.prog 17 #[.pointer (some ⟨sb,0,none⟩)] w (CkP w sb L T A nv xs):=by
 have hpo:zc5 T A:=⟨h.ss.p.ts.cl,h.ss.p.ts.nd,h.ss.p.ac,h.ss.p.nd⟩
 have hps:∀ p∈L.map Prod.fst,FmW p/\∀ x∈J5 false p,x∈A:=by
  intro p hp
  obtain ⟨q,hq,rfl⟩:=List.mem_map.1 hp
  exact ⟨h.fw q hq,fun x hx=>(h.st.aw.mem x).2 ⟨q,hq,hx⟩⟩
 have kb:=h.ss.p.ts.blk
 obtain ⟨fa,fc,e1⟩:=j9 h.ss.fown.1
 have hkd:=h.kids
 have hT:=h.ss.tfew
 have hA:=h.ss.afew
 obtain ⟨ts,tm,at_,am,fs,ks,vd,ml⟩:=xs
 simp only at e1
 subst e1
 have c5:=z6 kb 5
 have hsb:=z8 kb
 have HC1:Hid (∀ W,q9 (fun _=>False) w W->Calls Tryz.prog 37 #[.pointer (some ⟨sb,0,none⟩),.slice fa Y.length fc] W fun e w'=>∃ r mv,e=.returned (.agg #[.bool r,mv])/\q9 (fun _=>False) W w'/\(r=true↔Sat (L.map Prod.fst))/\(r=true->∃ u,Fits T A (L.map Prod.fst) u/\w'.ownsRow 0 3 1 mv T.length ((List.range T.length).map fun i=>.int .i64 (u i)))/\∃ ma mn mc,mv=.slice ma mn mc):=fun W hx =>
  qs0 (h.ss.p.ext hx (fun _ _ f=>f)) hT hA h.st.te (hkd.ext hx (fun _ _ _ f=>f)) hps (hp.ext hx (fun f=>f))
 have HC2:Hid (∀ W,q9 (fun _=>False) w W->Calls Tryz.prog 39 #[.pointer (some ⟨sb,1,none⟩)] W fun e w'=>∃ v',e=.returned v'/\q9 (fun _=>False) W w'/\w'.ownsRow 0 145 6 v' T.length ((keys T).flatMap Z0.cells)):=fun W hx=>zU2 (h.ss.p.ext hx (fun _ _ f=>f)) hT
 have HPO:=q8 hpo
 have KB:=q8 kb
 clear h hpo hps kb hkd hp
 go_enter Tryz.func17,Tryz.ntmps17
 go_wp2_with fail
 refine (HC1.out w (q9.refl _ _)).mono ?_
 rintro e w1 ⟨r,mv,rfl,hx1,hr1,ht1,ma,mn,mc,rfl⟩
 have k1:=(hx1.block _ hsb (fun f=>f)).trans KB.out
 have hl1:=z8 k1
 have b7:=z6 k1 7
 have b8:=z6 k1 8
 have f7:=Q0 k1 7
 have f8:=Q0 k1 8
 have K1:=q8 k1
 have HX1:=q8 hx1
 have hne:¬sb=w1.heap.size:=by omega
 cases r with
 | false =>
  have HNS:Hid (¬Sat (L.map Prod.fst)):=fun hs=>by
   have:=hr1.2 hs
   simp at this
  clear k1 hx1 hr1 ht1 HC1
  go_wp2_with fail
  go_ret
  have hlx:(((w1.setCell ⟨sb,7,none⟩ (.int .i64 2)).setCell ⟨sb,8,none⟩ (.map none))).heap.size=w1.heap.size:=by simp
  refine ⟨false,2,.map none,rfl,⟨fun e=>by simp at e,fun hs=>absurd hs HNS.out⟩,?_,?_,fun e=>by simp at e,fun _=>⟨rfl,rfl⟩⟩
  ·exact (((HX1.out.mono (T:=fun k=>k=sb) (fun _ _ f=>f.elim)).setCell (p:=⟨sb,7,none⟩) (fun _=>rfl) _).setCell (p:=⟨sb,8,none⟩) (fun _=>rfl) _).alloc _
  ·rw [heap_alloc_old _ _ (by rw [hlx];exact hl1)]
   exact Y0 (Y0 K1.out 7 _) 8 _
 | true =>
  have HSA:Hid (Sat (L.map Prod.fst)):=hr1.1 rfl
  obtain ⟨u,hu,hrow⟩:=ht1 rfl
  obtain ⟨ma2,mc2,e2⟩:=j9 hrow
  cases e2
  have HU:=q8 hu
  have HROW:=q8 hrow
  have HMO:=q8 (jp1 HPO.out hT hu.1)
  clear k1 hx1 hr1 ht1 HC1 hu hrow
  obtain ⟨W0,hW0⟩:∃ W0,w1.alloc (.cells #[.bool true,.slice ma T.length mc] 74)=W0:=⟨_,rfl⟩
  have HX0:Hid (q9 (fun _=>False) w1 W0):=by rw [<- hW0];exact (q9.refl _ w1).alloc _
  have KA:Hid (W0.heap[w1.heap.size]?=some (.cells #[.bool true,.slice ma T.length mc] 74)):=by rw [<- hW0];exact heap_alloc_new w1 _
  have HM:Hid (∀ W tv,q9 (fun _=>False) w1 W->W.ownsRow 0 145 6 tv T.length ((keys T).flatMap Z0.cells)->Calls Tryz.prog 38 #[tv,.slice ma T.length mc] W fun e w'=>∃ mb,e=.returned (.agg #[.map (some mb)])/\q9 (fun _=>False) W w'/\W.heap.size<=mb/\MdW w' mb T.length (keys T) u T.length):=fun W tv hW ht=>by
   have hm:=qI0 (w:=W) (tv:=tv) (TK:=keys T) (u:=u) (na:=ma) (nc:=mc) (by rw [Y4];exact ht) (by rw [Y4];exact z7 HROW.out hW (fun _ _ f=>f)) (by rw [Y4];exact hT) HMO.out
   rw [Y4] at hm
   exact hm
  have HW0:=q8 hW0
  clear hW0
  go_wp2_with fail
  rw [HW0.out]
  clear HW0 b7 b8 f7 f8
  have z0:=z6 KA.out 0
  have z1:=z6 KA.out 1
  go_region_law (go_simp;go_wp2_with (first | (go_at_call 39;refine (HC2.out W0.drew (HX1.out.trans HX0.out.drew)).mono ?_;rintro e w2 ⟨tv,rfl,hx2,ht2⟩;obtain ⟨ta,tc,rfl⟩:=j9 ht2;have HX2:Hid (q9 (fun _=>False) W0 w2):=((q9.refl (fun _=>False) W0).drew).trans hx2;have HT2:=q8 ht2;have ka2:=(HX2.out.block _ (z8 KA.out) (fun f=>f)).trans KA.out;have a0:=z6 ka2 0;have a1:=z6 ka2 1;clear hx2 ht2) | (go_at_call 38;refine (HM.out w2 _ (HX0.out.trans HX2.out) HT2.out).mono ?_;rintro e w3 ⟨mb,rfl,hx3,hmb,hmd⟩;have HX3:=q8 hx3;have HMD:=q8 hmd;have HMB:=q8 hmb;have k3:=(((HX0.out.trans HX2.out).trans hx3).block _ hl1 (fun f=>f)).trans K1.out;have b7:=z6 k3 7;have b8:=z6 k3 8;have f7:=Q0 k3 7;have f8:=Q0 k3 8;have ka3:=(hx3.block _ (z8 ka2) (fun f=>f)).trans ka2;have a30:=z6 ka3 0;have K3:=q8 k3;have hl3:=z8 k3;clear hx3 hmd hmb k3 ka3)))
  all_goals
   go_wp2_with fail
   go_ret
   have hx3:q9 (fun _=>False) w w3:=HX1.out.trans ((HX0.out.trans HX2.out).trans HX3.out)
   have hs2:w.heap.size<=w2.heap.size:=(HX1.out.trans (HX0.out.trans HX2.out)).size
   have hxs:q9 (fun k=>k=sb) w3 ((w3.setCell ⟨sb,7,none⟩ (.int .i64 1)).setCell ⟨sb,8,none⟩ (.map (some mb))):=((q9.refl (fun k=>k=sb) w3).setCell (p:=⟨sb,7,none⟩) (fun _=>rfl) _).setCell (p:=⟨sb,8,none⟩) (fun _=>rfl) _
   have hmb:=HMB.out
   exact ⟨true,1,.map (some mb),rfl,⟨fun _=>HSA.out,fun _=>rfl⟩,(hx3.mono (fun _ _ f=>f.elim)).trans hxs,Y0 (Y0 K3.out 7 _) 8 _,fun _=>⟨rfl,mb,u,rfl,by omega,HU.out,HMD.out.ext hxs (by omega)⟩,fun e=>by simp at e⟩
end
theorem zW7 {N:List Nm} (hN:zS1 N) {l:List UInt8} {nd:Nd} {ts:List Tk} (h:X8 N l=.ok nd ts):FmW nd:=by
 unfold X8 at h
 split at h
 ·simp at h
 ·simp at h
 ·rename_i nd' t us hr
  split at h
  ·simp at h
   obtain ⟨rfl,_⟩:=h
   exact qg5 hN _ _ _ _ _ hr
  ·simp at h
section
variable {w w0 w':World} {sb:Nat} {N N':List Nm} {L L':List (Nd × Int)} {d d':Nat} {F G:Nat->Prop}
theorem zy8.refl (h:Ses w sb N L d F) (hx:q9 (fun _=>False) w w'):zy8 w F sb N L d w':=⟨hx.mono (fun _ _ f=>f.elim),F,h.ext hx (fun _ _ f=>f),fun _ hk=>.inl hk⟩
theorem qZ1 (w:World):Calls Tryz.prog 36 #[] w fun e w'=>e=.returned (.pointer (some ⟨w.heap.size,0,none⟩))/\q9 (fun _=>False) w w'/\∃ F,Ses w' w.heap.size [] [] 0 F/\∀ k,F k->w.heap.size<=k:=by
 refine (jp2 w).mono ?_
 rintro e w' ⟨rfl,hx,hP,hs⟩
 refine ⟨rfl,hx,_,⟨[],[],[],.slice none 0 0,px0,fun _=>False,[],⟨je6 hP,rfl,by simp,jb5,by simp,fun _ f=>f.elim⟩,rfl,rfl⟩,fun k hk=>?_⟩
 rcases hk with hk | hk
 ·rcases jm1.1 hk with e | e
  ·omega
  ·simp [Value.ownBlock] at e
 ·exact hk.elim
theorem qf1 (h:Ses w sb N L d F) (s:ByteArray) (a:Int) (hs:s.size<=maxLen) :
  Calls Tryz.prog 20 #[.pointer (some ⟨sb,0,none⟩),.string s,.int .i64 a] w fun e w'=>e=.returned (.int .i64 (J8 N s.toList a))/\zy8 w F sb (U7 N d s a) L d w':=by
 obtain ⟨T,A,K,nv,xs,D,Y,hP,rfl,rfl⟩:=h
 refine (qs5 K.length s a hP.ss.ps hs).mono ?_
 rintro e w' hd
 obtain ⟨he,hS⟩:=qs9 hP.ss hd
 exact ⟨he,hP.same hS (hP.st.decl s a)⟩
theorem qO3 (h:Ses w sb N L d F) (hd:d < 20) :
  Calls Tryz.prog 18 #[.pointer (some ⟨sb,0,none⟩)] w fun e w'=>e=.returned (.int .i64 0)/\zy8 w F sb N L (d+1) w':=by
 obtain ⟨T,A,K,nv,xs,D,Y,hP,rfl,rfl⟩:=h
 refine (jj0 hP.ss hd).mono ?_
 rintro e w' ⟨rfl,hS⟩
 rw [hP.yl] at hS
 have:=hP.same hS hP.st.push
 rw [List.length_append,List.length_singleton] at this
 exact ⟨rfl,this⟩
theorem qZ2 (h:Ses w sb N L (d+1) F) :
  Calls Tryz.prog 19 #[.pointer (some ⟨sb,0,none⟩)] w fun e w'=>e=.returned (.int .i64 0)/\zy8 w F sb (N.filter (fun x=>decide (x.fr < (d:Int)+1))) (L.filter (fun x=>decide (x.2 < (d:Int)+1))) d w':=by
 obtain ⟨T,A,K,nv,xs,D,Y,hP,hd,rfl⟩:=h
 obtain ⟨K,fr,rfl⟩:∃ K' fr,K=K'++[fr]:=by
  have hne:K ≠ []:=by intro e;rw [e] at hd;simp at hd
  exact ⟨K.dropLast,K.getLast hne,(List.dropLast_concat_getLast hne).symm⟩
 have hd2:K.length=d:=by simpa using hd
 subst hd2
 have hl:=hP.st.fit K.length fr (by simp)
 refine (jm7 hP.ss hl.n hl.t hl.a (by rw [hP.yl];exact hl.f) hP.st.ac).mono ?_
 rintro e w' ⟨rfl,hS⟩
 exact ⟨rfl,hP.popped hS⟩
theorem qD7 (h:Ses w sb N L d F) :
  Calls Tryz.prog 24 #[.pointer (some ⟨sb,0,none⟩)] w fun e w'=>e=.returned (.tuple #[.int .i64 L.length,.int .i64 d])/\zy8 w F sb N L d w':=by
 have h0:=h
 obtain ⟨T,A,K,nv,xs,D,Y,hP,rfl,rfl⟩:=h
 refine (qX2 hP.ss).mono ?_
 rintro e w' ⟨rfl,hx⟩
 rw [hP.yl]
 exact ⟨rfl,zy8.refl h0 hx⟩
theorem qo6 (h:Ses w sb N L d F) (s:ByteArray) (hm:s.size<=maxLen) (hhd:za3 w) :
  Calls Tryz.prog 25 #[.pointer (some ⟨sb,0,none⟩),.string s] w fun e w'=>e=.returned (.tuple #[.int .i64 (V5 N (L.map Prod.fst) s).1,.int .i64 (V5 N (L.map Prod.fst) s).2.1])/\zy8 w F sb N (L++zn7 (V5 N (L.map Prod.fst) s).2.2 d) d w':=by
 have h0:=h
 obtain ⟨T,A,K,nv,xs,D,Y,hP,rfl,rfl⟩:=h
 by_cases hs:600 < s.size
 ·rw [qp7 hs]
  refine (qX4 s hP.ss hs hm).mono ?_
  rintro e w' ⟨rfl,hS⟩
  refine ⟨rfl,?_⟩
  have:=hP.same hS hP.st
  simpa [zn7] using this
 ·cases hr:X8 N s.toList with
  | no e p =>
   rw [qQ2 (by omega) hr]
   refine (jm8 s hP.ss (by omega) hhd hr).mono ?_
   rintro e w' ⟨rfl,hS⟩
   refine ⟨rfl,?_⟩
   have:=hP.same hS hP.st
   simpa [zn7] using this
  | ok nd us =>
   by_cases hf:20<=L.length
   ·rw [qp8 (by omega) hr (by simpa using hf)]
    refine (qX5 s hP.ss (by omega) hhd hr (by rw [hP.yl];exact hf)).mono ?_
    rintro e w' ⟨rfl,hS⟩
    refine ⟨rfl,?_⟩
    have:=hP.same hS hP.st
    simpa [zn7] using this
   ·refine (qX8 s hP.ss (by omega) hhd hr (by rw [hP.yl];omega)).mono ?_
    rintro e w' ⟨T',A',hT,hA,rfl,h1,h2⟩
    have hok:=zE5 hP.ss.ok hr
    have hcode:=qp6 hP.st (by omega) hr hok (by omega) hT hA (hT.nd hP.ss.p.ts.nd) (hA.nd hP.ss.p.nd)
    rw [hcode]
    refine ⟨rfl,?_⟩
    by_cases hc:zd8 T'.length A'.length=0
    ·obtain ⟨cs,hS,hft⟩:=h1 hc
     have:=hP.took hS hft hT hA hok (zW7 hP.ss.ok hr)
     simp only [hc,if_true,zn7]
     exact this
    ·have:=hP.same (h2 hc) hP.st
     simp only [if_neg hc,zn7,List.append_nil]
     exact this
theorem qD8 (h:Ses w sb N L d F) (hp:Y2 w) :
  Calls Tryz.prog 17 #[.pointer (some ⟨sb,0,none⟩)] w fun e w'=>∃ r,e=.returned (.bool r)/\(r=true↔Sat (L.map Prod.fst))/\zy8 w F sb N L d w':=by
 obtain ⟨T,A,K,nv,xs,D,Y,hP,rfl,rfl⟩:=h
 refine (qD4 hP hp).mono ?_
 rintro e w' ⟨r,vd,ml,rfl,hr,hx,kb,_,_⟩
 refine ⟨r,rfl,hr,?_⟩
 have hS:zd9 w sb nv xs N T A Y K w':=⟨hx.mono (fun _ _ e=>.inl (.inl (.inl e))),nv,{ xs with vd:=.int .i64 vd,ml:=ml },hP.ss.turn _ _ hx kb,fun k hk=>.inl hk⟩
 exact hP.same hS hP.st
def KS (w0:World) (G:Nat->Prop) (w:World) (sb:Nat) (N:List Nm) (L:List (Nd × Int)) (d:Nat):Prop :=
 q9 (fun _=>False) w0 w/\(∀ k,G k->k < w.heap.size)/\∃ F,Ses w sb N L d F/\∀ k,F k->w0.heap.size<=k/\¬G k
def KP (w0:World) (G:Nat->Prop) (w:World) (sb:Nat) (N:List Nm) (L:List (Nd × Int)) (d:Nat) (w':World):Prop :=
 KS w0 G w' sb N L d/\q9 (fun k=>w0.heap.size<=k/\¬G k) w w'
theorem KS.ext {S:Nat->Prop} (h:KS w0 G w sb N L d) (hx:q9 S w w') (hS:∀ k,S k->G k) (hG:∀ k,G k->w0.heap.size<=k):KS w0 G w' sb N L d:=by
 obtain ⟨h1,h2,F,h3,h4⟩:=h
 refine ⟨h1.trans' hx (fun k hk e=>by have:=hG k (hS k e);omega),fun k hk=>Nat.lt_of_lt_of_le (h2 k hk) hx.size,F,h3.ext hx (fun k hk e=>(h4 k hk).2 (hS k e)),h4⟩
theorem KS.quiet (h:KS w0 G w sb N L d) (hx:q9 (fun _=>False) w w'):KS w0 G w' sb N L d:=by
 obtain ⟨h1,h2,F,h3,h4⟩:=h
 exact ⟨h1.trans hx,fun k hk=>Nat.lt_of_lt_of_le (h2 k hk) hx.size,F,h3.ext hx (fun _ _ f=>f),h4⟩
theorem KS.guard {G':Nat->Prop} (h:KS w0 G w sb N L d) (hx:q9 (fun _=>False) w w') (hG:∀ k,G' k->G k\/(w.heap.size<=k/\k < w'.heap.size)):KS w0 G' w' sb N L d:=by
 obtain ⟨h1,h2,F,h3,h4⟩:=h
 refine ⟨h1.trans hx,fun k hk=>?_,F,h3.ext hx (fun _ _ f=>f),fun k hk=>⟨(h4 k hk).1,fun e=>?_⟩⟩
 ·rcases hG k hk with e | e
  ·exact Nat.lt_of_lt_of_le (h2 k e) hx.size
  ·exact e.2
 ·rcases hG k e with e | e
  ·exact (h4 k hk).2 e
  ·have:=h3.lt k hk;omega
theorem zy8.kp (h:KS w0 G w sb N L d) {F:Nat->Prop} (hF:∀ k,F k->w0.heap.size<=k/\¬G k) (hp:zy8 w F sb N' L' d' w'):KP w0 G w sb N' L' d' w':=by
 obtain ⟨h1,h2,_⟩:=h
 obtain ⟨hx,F',h3,h4⟩:=hp
 refine ⟨⟨h1.trans' hx (fun k hk e=>by have:=(hF k e).1;omega),fun k hk=>Nat.lt_of_lt_of_le (h2 k hk) hx.size,F',h3,fun k hk=>?_⟩,hx.mono (fun k _ e=>hF k e)⟩
 rcases h4 k hk with e | e
 ·exact hF k e
 ·exact ⟨Nat.le_trans h1.size e,fun g=>by have:=h2 k g;omega⟩
theorem zR8 (h:KS w0 G w sb N L d) (s:ByteArray) (a:Int) (hs:s.size<=maxLen) :
  Calls Tryz.prog 20 #[.pointer (some ⟨sb,0,none⟩),.string s,.int .i64 a] w fun e w'=>e=.returned (.int .i64 (J8 N s.toList a))/\KP w0 G w sb (U7 N d s a) L d w':=by
 obtain ⟨F,h3,h4⟩:=h.2.2
 refine (qf1 h3 s a hs).mono ?_
 rintro e w' ⟨rfl,hp⟩
 exact ⟨rfl,hp.kp h h4⟩
theorem qO4 (h:KS w0 G w sb N L d) (hd:d < 20) :
  Calls Tryz.prog 18 #[.pointer (some ⟨sb,0,none⟩)] w fun e w'=>e=.returned (.int .i64 0)/\KP w0 G w sb N L (d+1) w':=by
 obtain ⟨F,h3,h4⟩:=h.2.2
 refine (qO3 h3 hd).mono ?_
 rintro e w' ⟨rfl,hp⟩
 exact ⟨rfl,hp.kp h h4⟩
theorem jf4 (h:KS w0 G w sb N L (d+1)) :
  Calls Tryz.prog 19 #[.pointer (some ⟨sb,0,none⟩)] w fun e w'=>e=.returned (.int .i64 0)/\KP w0 G w sb (N.filter (fun x=>decide (x.fr < (d:Int)+1))) (L.filter (fun x=>decide (x.2 < (d:Int)+1))) d w':=by
 obtain ⟨F,h3,h4⟩:=h.2.2
 refine (qZ2 h3).mono ?_
 rintro e w' ⟨rfl,hp⟩
 exact ⟨rfl,hp.kp h h4⟩
theorem qv8 (h:KS w0 G w sb N L d) :
  Calls Tryz.prog 24 #[.pointer (some ⟨sb,0,none⟩)] w fun e w'=>e=.returned (.tuple #[.int .i64 L.length,.int .i64 d])/\KP w0 G w sb N L d w':=by
 obtain ⟨F,h3,h4⟩:=h.2.2
 refine (qD7 h3).mono ?_
 rintro e w' ⟨rfl,hp⟩
 exact ⟨rfl,hp.kp h h4⟩
theorem zq0 (h:KS w0 G w sb N L d) (s:ByteArray) (hm:s.size<=maxLen) (hhd:za3 w0) :
  Calls Tryz.prog 25 #[.pointer (some ⟨sb,0,none⟩),.string s] w fun e w'=>e=.returned (.tuple #[.int .i64 (V5 N (L.map Prod.fst) s).1,.int .i64 (V5 N (L.map Prod.fst) s).2.1])/\KP w0 G w sb N (L++zn7 (V5 N (L.map Prod.fst) s).2.2 d) d w':=by
 obtain ⟨F,h3,h4⟩:=h.2.2
 refine (qo6 h3 s hm (hhd.ext h.1 (fun f=>f))).mono ?_
 rintro e w' ⟨rfl,hp⟩
 exact ⟨rfl,hp.kp h h4⟩
theorem zy9 (h:KS w0 G w sb N L d) (hp:Y2 w0) :
  Calls Tryz.prog 17 #[.pointer (some ⟨sb,0,none⟩)] w fun e w'=>∃ r,e=.returned (.bool r)/\(r=true↔Sat (L.map Prod.fst))/\KP w0 G w sb N L d w':=by
 obtain ⟨F,h3,h4⟩:=h.2.2
 refine (qD8 h3 (hp.ext h.1 (fun f=>f))).mono ?_
 rintro e w' ⟨r,rfl,hr,hp⟩
 exact ⟨r,rfl,hr,hp.kp h h4⟩
end
def kX:ByteArray:=⟨#[120]⟩
def kY:ByteArray:=⟨#[121]⟩
def kZ:ByteArray:=⟨#[122]⟩
def kF:ByteArray:=⟨#[102]⟩
def kG:ByteArray:=⟨#[103]⟩
def kEq:ByteArray:=⟨#[61]⟩
def jo0:ByteArray:=⟨#[110,111,116]⟩
def kT1:ByteArray:=⟨#[40,61,32,120,32,121,41]⟩
def kT2:ByteArray:=⟨#[40,110,111,116,32,40,61,32,40,102,32,120,41,32,40,102,32,121,41,41,41]⟩
def zc6:List Nm:=[⟨kX,0,0⟩,⟨kY,0,0⟩,⟨kZ,0,0⟩,⟨kF,1,0⟩,⟨kG,2,0⟩]
def nX:Nd:=.mk 3 kX 0 []
def nY:Nd:=.mk 3 kY 0 []
def nEq (a b:Nd):Nd:=.mk 2 kEq 0 [a,b]
def qD9 (a:Nd):Nd:=.mk 1 jo0 0 [a]
def nF1 (a:Nd):Nd:=.mk 3 kF 0 [a]
def nm5 (i:Nat):ByteArray:=[kX,kY,kZ,kF,kG].getD i kX
def ar5 (i:Nat):Int:=[0,0,0,1,2].getD i 0
theorem qZ3:J8 (zc6.take 0) (nm5 0).toList (ar5 0)=0:=by kernel_rfl
theorem qZ4:J8 (zc6.take 1) (nm5 1).toList (ar5 1)=0:=by kernel_rfl
theorem qZ5:J8 (zc6.take 2) (nm5 2).toList (ar5 2)=0:=by kernel_rfl
theorem qZ6:J8 (zc6.take 3) (nm5 3).toList (ar5 3)=0:=by kernel_rfl
theorem qZ7:J8 (zc6.take 4) (nm5 4).toList (ar5 4)=0:=by kernel_rfl
theorem zR9 (i:Nat) (hi:i < 5):J8 (zc6.take i) (nm5 i).toList (ar5 i)=0:=by
 match i,hi with
 | 0,_=>exact qZ3
 | 1,_=>exact qZ4
 | 2,_=>exact qZ5
 | 3,_=>exact qZ6
 | 4,_=>exact qZ7
theorem qE0 (i:Nat) (hi:i < 5):U7 (zc6.take i) 0 (nm5 i) (ar5 i)=zc6.take (i+1):=by
 rw [U7,if_pos (zR9 i hi)]
 match i,hi with
 | 0,_=>rfl
 | 1,_=>rfl
 | 2,_=>rfl
 | 3,_=>rfl
 | 4,_=>rfl
theorem qZ8 (i:Nat) (hi:i < 5):(#[.string ⟨#[120]⟩,.string ⟨#[121]⟩,.string ⟨#[122]⟩,.string ⟨#[102]⟩,.string ⟨#[103]⟩]:Array Value)[i]?=some (.string (nm5 i)):=by
 match i,hi with
 | 0,_=>rfl
 | 1,_=>rfl
 | 2,_=>rfl
 | 3,_=>rfl
 | 4,_=>rfl
theorem qZ9 (i:Nat) (hi:i < 5):(#[.int .i64 0,.int .i64 0,.int .i64 0,.int .i64 1,.int .i64 2]:Array Value)[i]?=some (.int .i64 (ar5 i)):=by
 match i,hi with
 | 0,_=>rfl
 | 1,_=>rfl
 | 2,_=>rfl
 | 3,_=>rfl
 | 4,_=>rfl
theorem qO5 (i:Nat) (hi:i < 5):(nm5 i).size<=maxLen:=by
 match i,hi with
 | 0,_=>decide
 | 1,_=>decide
 | 2,_=>decide
 | 3,_=>decide
 | 4,_=>decide
theorem jk1:V5 zc6 [] kT1=(0,0,some (nEq nX nY)):=by kernel_rfl
theorem jk2:V5 zc6 [nEq nX nY] kT2=(0,0,some (qD9 (nEq (nF1 nX) (nF1 nY)))):=by kernel_rfl
theorem jo1:kEq.toList=[61]:=by rw [ByteArray.toList_eq];rfl
theorem jk3:jo0.toList=zj4:=by rw [ByteArray.toList_eq];rfl
theorem qo7 (I:Itp) (a b:Nd):ftr (zq9 (zq8 I)) (nEq a b)=decide (zq8 I a=zq8 I b):=by
 unfold nEq
 rw [ftr,if_pos rfl,zq9,zn9,jo1,if_pos rfl]
theorem ja0 (α:Nd->Bool) (f:Nd):ftr α (qD9 f) = !(ftr α f):=by
 unfold qD9
 rw [ftr,if_neg (by decide),if_neg (by decide),con,jk3,if_pos rfl,qQ8]
 rfl
theorem ja1:Sat [nEq nX nY]:=⟨fun _ _=>0,fun f hf=>by
 rw [List.mem_singleton.1 hf,qo7]
 simp [nX,nY,zq8]⟩
theorem ja2:¬Sat [nEq nX nY,qD9 (nEq (nF1 nX) (nF1 nY))]:=by
 rintro ⟨I,h⟩
 have h1:=h (nEq nX nY) (by simp)
 have h2:=h (qD9 (nEq (nF1 nX) (nF1 nY))) (by simp)
 rw [qo7] at h1
 rw [ja0,qo7] at h2
 have e:=of_decide_eq_true h1
 have:zq8 I (nF1 nX)=zq8 I (nF1 nY):=by
  unfold nF1
  rw [zq8,if_neg (by decide),zq8,if_neg (by decide),zA0,zA0,zA0,zA0,e]
 simp [this] at h2
def zE2 (c n:Int):Int:=if c < 0 then -((c+1).tmod n) else c.tmod n
theorem qf2 (c n:Int) (hn:0 < n):0<=zE2 c n/\zE2 c n < n:=by
 unfold zE2
 split
 ·have h : -((c+1).tmod n)=(-(c+1)).tmod n:=(Int.neg_tmod _ _).symm
  rw [h]
  exact ⟨Int.tmod_nonneg _ (by omega),Int.tmod_lt_of_pos _ hn⟩
 ·exact ⟨Int.tmod_nonneg _ (by omega),Int.tmod_lt_of_pos _ hn⟩
end Go.Proofs.YtegbdaffhpiacaaGreatDoor

namespace Go.Proofs.YtegbdaffhpiacaaGreatDoor
open Ar
def ja3:Rs Nd->Option Nd
 | .ok nd _=>some nd
 | .no _ _=>none
theorem ja4 {r:Rs Nd} {nd:Nd} (h:ja3 r=some nd):∃ us,r=.ok nd us:=by
 cases r with
 | ok a us=>simp [ja3] at h;exact ⟨us,by rw [h]⟩
 | no e p=>simp [ja3] at h
end Go.Proofs.YtegbdaffhpiacaaGreatDoor

namespace Go.Proofs.YtegbdaffhpiacaaGreatDoor
open Go.RowKit Go.Maps Ar
section
variable {w w0:World} {sb:Nat} {N:List Nm} {L:List (Nd × Int)} {d:Nat} {G:Nat->Prop}
def zu5 (p c:Int):Int:=if p ≠ 0 then 2 else if c=0 then 0 else if c=9\/c=10\/c=1\/c=8 then 1 else 2
set_option maxHeartbeats 400000 in
theorem qO6 (h:KS w0 G w sb N L d) (s:ByteArray) (hm:s.size<=maxLen) (hhd:za3 w0) :
  Calls Tryz.prog 15 #[.pointer (some ⟨sb,0,none⟩),.string s] w fun e w'=>e=.returned (.int .i64 (zu5 (V5 N (L.map Prod.fst) s).1 (V5 N (L.map Prod.fst) s).2.1))/\KP w0 G w sb N (L++zn7 (V5 N (L.map Prod.fst) s).2.2 d) d w':=by
 have HC:=q8 (zq0 h s hm hhd)
 clear h hm hhd
 obtain ⟨o,ho⟩:∃ o,V5 N (L.map Prod.fst) s=o:=⟨_,rfl⟩
 rw [ho] at HC
 rw [ho]
 obtain ⟨p,c,q⟩:=o
 clear ho
 simp only at HC ⊢
 go_enter Tryz.func15,Tryz.ntmps15
 go_wp2_with fail
 refine HC.out.mono ?_
 rintro e w1 ⟨rfl,hp⟩
 have HP:=q8 hp
 clear hp HC
 by_cases hp0:p=0
 ·by_cases hc0:c=0
  ·subst hp0 hc0
   go_wp2_with fail
   go_ret
   exact ⟨by simp [zu5],HP.out⟩
  ·by_cases h9:c=9
   ·subst hp0 h9
    go_wp2_with fail
    go_ret
    exact ⟨by simp [zu5],HP.out⟩
   ·by_cases h10:c=10
    ·subst hp0 h10
     go_wp2_with fail
     go_ret
     exact ⟨by simp [zu5],HP.out⟩
    ·by_cases h1:c=1
     ·subst hp0 h1
      go_wp2_with fail
      go_ret
      exact ⟨by simp [zu5],HP.out⟩
     ·by_cases h8:c=8
      ·subst hp0 h8
       go_wp2_with fail
       go_ret
       exact ⟨by simp [zu5],HP.out⟩
      ·subst hp0
       have e0:(c == 0)=false:=by simpa using hc0
       have e9:(c == 9)=false:=by simpa using h9
       have e10:(c == 10)=false:=by simpa using h10
       have e1:(c == 1)=false:=by simpa using h1
       have e8:(c == 8)=false:=by simpa using h8
       go_wp2_with fail
       go_ret
       exact ⟨by simp [zu5,hc0,h9,h10,h1,h8],HP.out⟩
 ·have e0:(p == 0)=false:=by simpa using hp0
  go_wp2_with fail
  go_ret
  exact ⟨by simp [zu5,hp0],HP.out⟩
set_option maxHeartbeats 400000 in
theorem qf3 (c n:Int) (hc : -9223372036854775808<=c/\c<=9223372036854775807) (hn:0 < n/\n<=3000) :
  Calls Tryz.prog 21 #[.int .i64 c,.int .i64 n] w fun e w'=>e=.returned (.int .i64 (zE2 c n))/\q9 (fun _=>False) w w':=by
 have HX:=q8 (q9.refl (fun _=>False) w)
 by_cases h0:c < 0
 ·go_enter Tryz.func21,Tryz.ntmps21
  go_wp2_with fail
  go_ret
  exact ⟨by simp [zE2,h0],HX.out⟩
 ·go_enter Tryz.func21,Tryz.ntmps21
  go_wp2_with fail
  go_ret
  refine ⟨?_,HX.out⟩
  unfold zE2
  rw [if_neg (by omega),Int.tmod_eq_emod_of_nonneg (by omega)]
  rfl
set_option maxRecDepth 100000 in
set_option maxHeartbeats 1000000 in
theorem qo8 (w:World) (hhd:za3 w) (hpt:Y2 w) :
  Calls Tryz.prog 13 #[] w fun e w'=>∃ sb,e=.returned (.pointer (some ⟨sb,0,none⟩))/\KS w (fun _=>False) w' sb zc6 [] 0:=by
 have HHD:=q8 hhd
 have HPT:=q8 hpt
 clear hhd hpt
 go_enter Tryz.func13,Tryz.ntmps13
 go_wp2_with fail
 refine (qZ1 w).mono ?_
 rintro e w1 ⟨rfl,hx1,F,hS1,hF1⟩
 have HS1:Hid (KS w (fun _=>False) w1 w.heap.size [] [] 0):=⟨hx1,fun _ f=>f.elim,F,hS1,fun k hk=>⟨hF1 k hk,fun f=>f⟩⟩
 clear hx1 hS1 hF1
 go_wp2_with fail
 obtain ⟨W2,hW2⟩:∃ W2,(w1.alloc (.cells #[.string ⟨#[120]⟩,.string ⟨#[121]⟩,.string ⟨#[122]⟩,.string ⟨#[102]⟩,.string ⟨#[103]⟩] 68)).alloc (.cells #[.int .i64 0,.int .i64 0,.int .i64 0,.int .i64 1,.int .i64 2] 69)=W2:=⟨_,rfl⟩
 have hx2:q9 (fun _=>False) w1 W2:=by rw [<- hW2];exact ((q9.refl _ w1).alloc _).alloc _
 have ka:W2.heap[w1.heap.size]?=some (.cells #[.string ⟨#[120]⟩,.string ⟨#[121]⟩,.string ⟨#[122]⟩,.string ⟨#[102]⟩,.string ⟨#[103]⟩] 68):=by rw [<- hW2,heap_alloc_old _ _ (by simp)];exact heap_alloc_new w1 _
 have kc:W2.heap[w1.heap.size+1]?=some (.cells #[.int .i64 0,.int .i64 0,.int .i64 0,.int .i64 1,.int .i64 2] 69):=by rw [<- hW2];exact heap_alloc2_new w1 _ _
 have hs2:W2.heap.size=w1.heap.size+2:=by rw [<- hW2];simp
 have HK2:Hid (KS w (fun k=>k=w1.heap.size\/k=w1.heap.size+1) W2 w.heap.size [] [] 0):=HS1.out.guard hx2 (fun k hk=>.inr (by omega))
 have hw1:w.heap.size < w1.heap.size:=HS1.out.2.2.elim (fun F hF=>hF.1.lt _ (by obtain ⟨T,A,K,nv,xs,D,Y,hP,_,rfl⟩:=hF.1;exact .inl (.inl (.inl (.inl rfl)))))
 have KA:=q8 ka
 have KC:=q8 kc
 rw [hW2]
 clear hW2 hx2 ka kc HS1
 obtain ⟨b,hb⟩:∃ b,w1.heap.size=b:=⟨_,rfl⟩
 rw [hb] at KA KC HK2 hs2 hw1 ⊢
 clear hb
 go_loopw [4] (fun i wr=>∃ j:Nat,j<=5/\i=.int .i64 j/\KS w (fun k=>k=b\/k=b+1) wr w.heap.size (zc6.take j) [] 0/\wr.heap[b]?=some (.cells #[.string ⟨#[120]⟩,.string ⟨#[121]⟩,.string ⟨#[122]⟩,.string ⟨#[102]⟩,.string ⟨#[103]⟩] 68)/\wr.heap[b+1]?=some (.cells #[.int .i64 0,.int .i64 0,.int .i64 0,.int .i64 1,.int .i64 2] 69)) (fun i _=>5 - (intOf i).toNat)
 case atStart=>exact ⟨0,by omega,rfl,HK2.out,KA.out,KC.out⟩
 case round =>
  clear HK2 KA KC
  obtain ⟨j,hj,rfl,hS,ka,kc⟩:=hrel
  have HS:=q8 hS
  have KA:=q8 ka
  have KC:=q8 kc
  by_cases hlt:j < 5
  ·have n0:wr.cell? ⟨b,j,none⟩=some (.string (nm5 j)):=(z6 ka j).trans (qZ8 j hlt)
   have n1:wr.cell? ⟨b+1,j,none⟩=some (.int .i64 (ar5 j)):=(z6 kc j).trans (qZ9 j hlt)
   have HC:Hid (∀ W,q9 (fun _=>False) wr W->Calls Tryz.prog 20 #[.pointer (some ⟨w.heap.size,0,none⟩),.string (nm5 j),.int .i64 (ar5 j)] W fun e w'=>e=.returned (.int .i64 0)/\KP w (fun k=>k=b\/k=b+1) W w.heap.size (zc6.take (j+1)) [] 0 w'):=fun W hx=>by
    have:=zR8 (hS.quiet hx) (nm5 j) (ar5 j) (qO5 j hlt)
    rw [zR9 j hlt] at this
    have e:=qE0 j hlt
    refine this.mono ?_
    rintro e' w' ⟨rfl,hp⟩
    refine ⟨rfl,?_⟩
    rw [<- e]
    exact hp
   clear hS ka kc
   go_wp2_with fail
   go_region_law (go_simp;go_wp2_with (go_at_call 20;refine (HC.out wr.drew ((q9.refl (fun _=>False) wr).drew)).mono ?_;rintro e w3 ⟨rfl,hp3⟩;have HP3:=q8 hp3;clear hp3))
   all_goals
    go_wp2_with fail
    go_roundw
    case measure=>simp [intOf];omega
    case rel =>
     obtain ⟨h3,hx3⟩:=HP3.out
     exact ⟨j+1,by omega,by go_num,h3,(hx3.block b (z8 KA.out) (fun e=>e.2 (.inl rfl))).trans KA.out,(hx3.block (b+1) (z8 KC.out) (fun e=>e.2 (.inr rfl))).trans KC.out⟩
  ·have hj5:j=5:=by omega
   subst hj5
   clear ka kc
   have hS5:KS w (fun k=>k=b\/k=b+1) wr w.heap.size zc6 [] 0:=hS
   have hS6:KS w (fun _=>False) wr w.heap.size zc6 [] 0:=hS5.guard (q9.refl _ _) (fun _ f=>f.elim)
   have HC1:=q8 (qO4 hS6 (by omega))
   clear hS hS5 hS6
   go_wp2_with fail
   refine HC1.out.mono ?_
   rintro e w3 ⟨rfl,h3,_⟩
   have hc2:=zq0 h3 kT1 (by decide) HHD.out
   rw [List.map_nil,jk1] at hc2
   have HC2:=q8 hc2
   clear h3 hc2 HC1
   go_wp2_with fail
   refine HC2.out.mono ?_
   rintro e w4 ⟨rfl,h4,_⟩
   have HC3:=q8 (zy9 h4 HPT.out)
   have H4:=q8 h4
   clear h4 HC2
   go_wp2_with fail
   refine HC3.out.mono ?_
   rintro e w5 ⟨r,rfl,hr,h5,_⟩
   obtain rfl:r=true:=hr.2 ja1
   have hc4:=zq0 h5 kT2 (by decide) HHD.out
   have hc4':V5 zc6 (([]++zn7 (some (nEq nX nY)) ((0+1:Nat):Int)).map Prod.fst) kT2=(0,0,some (qD9 (nEq (nF1 nX) (nF1 nY)))):=jk2
   rw [hc4'] at hc4
   have HC4:=q8 hc4
   clear hr h5 hc4 hc4' HC3
   go_wp2_with fail
   refine HC4.out.mono ?_
   rintro e w6 ⟨rfl,h6,_⟩
   have HC5:=q8 (zy9 h6 HPT.out)
   clear h6 HC4
   go_wp2_with fail
   refine HC5.out.mono ?_
   rintro e w7 ⟨r,rfl,hr,h7,_⟩
   obtain rfl:r=false:=by
    cases r with
    | false=>rfl
    | true=>exact absurd (hr.1 rfl) ja2
   have hc6:=jf4 h7
   have HC6:Hid (Calls Tryz.prog 19 #[.pointer (some ⟨w.heap.size,0,none⟩)] w7 fun e w'=>e=.returned (.int .i64 0)/\KS w (fun _=>False) w' w.heap.size zc6 [] 0):=hc6.mono (fun e w' h=>⟨h.1,h.2.1⟩)
   clear hr h7 hc6 HC5
   go_wp2_with fail
   refine HC6.out.mono ?_
   rintro e w8 ⟨rfl,h8⟩
   have H8:=q8 h8
   clear h8 HC6
   go_wp2_with fail
   go_ret
   exact ⟨w.heap.size,rfl,H8.out⟩
end
end Go.Proofs.YtegbdaffhpiacaaGreatDoor
