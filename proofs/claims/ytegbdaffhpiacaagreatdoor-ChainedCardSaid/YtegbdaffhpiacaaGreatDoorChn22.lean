/- A session of the program, whole: names, pool, formulas, frames; Count and Push; A session of the program: what each part's turning leaves of the whole; names are cut back; The program: Pop; The program: Assert; The program: Assert takes a formula, or nothing of it; Plain: what both sides of a stack of frames have in common. -/
import Derived.Test.YtegbdaffhpiacaaGreatDoorChn21
import Derived.Test.YtegbdaffhpiacaaGreatDoorChn15
import Derived.BigQuiet
namespace Go.Proofs.YtegbdaffhpiacaaGreatDoor
open Go.RowKit Go.Maps Ar
structure Fr4 where
 n:Nat
 t:Nat
 a:Nat
 f:Nat
def frCells (K:List Fr4):List Value:=K.flatMap (fun x=>[.int .i64 x.n,.int .i64 x.t,.int .i64 x.a,.int .i64 x.f])
theorem frCells_snoc (K:List Fr4) (x:Fr4):frCells (K++[x])=frCells K++[.int .i64 x.n,.int .i64 x.t,.int .i64 x.a,.int .i64 x.f]:=by simp [frCells]
theorem frCells_len (K:List Fr4):(frCells K).length=K.length * 4:=by
 induction K with
 | nil=>rfl
 | cons a b ih=>simp only [frCells,List.flatMap_cons,List.length_append] at ih ⊢;simp at ih ⊢;omega
structure PSS (w:World) (sb:Nat) (N:List Nm) (nv:Value) (xs:PX) (T A:List Nd) (Y:List (List Value)) (K:List Fr4):Prop where
 p:PSt w sb nv xs T A
 nown:w.ownsRow 0 142 2 nv N.length (fnCells N)
 few:N.length<=20
 ok:∀ x∈N,0<=x.ar/\x.ar<=3
 fown:w.ownsRow 0 112 4 xs.fs Y.length Y.flatten/\∀ cs∈Y,cs.length=4
 kown:w.ownsRow 0 106 4 xs.ks K.length (frCells K)
 ffew:Y.length<=20
 kfew:K.length<=20
 tfew:T.length<=12
 afew:A.length<=16
 n1:∀ k,nv.ownBlock=some k->¬PF sb xs k/\¬xs.fs.ownBlock=some k/\¬xs.ks.ownBlock=some k
 f1:∀ k,xs.fs.ownBlock=some k->¬PF sb xs k/\¬xs.ks.ownBlock=some k
 k1:∀ k,xs.ks.ownBlock=some k->¬PF sb xs k
def SF (sb:Nat) (nv:Value) (xs:PX) (k:Nat):Prop:=PF sb xs k\/nv.ownBlock=some k\/xs.fs.ownBlock=some k\/xs.ks.ownBlock=some k
theorem PSS.lt {w:World} {sb:Nat} {N:List Nm} {nv:Value} {xs:PX} {T A:List Nd} {Y:List (List Value)} {K:List Fr4} (h:PSS w sb N nv xs T A Y K):∀ k,SF sb nv xs k->k < w.heap.size:=by
 obtain ⟨hf,hfl⟩:=h.fown
 rintro k (e | e | e | e)
 ·exact h.p.lt k e
 ·exact (h.nown.lt k e).2
 ·exact (hf.lt k e).2
 ·exact (h.kown.lt k e).2
theorem PSS.ext {S:Nat->Prop} {w w':World} {sb:Nat} {N:List Nm} {nv:Value} {xs:PX} {T A:List Nd} {Y:List (List Value)} {K:List Fr4} (h:PSS w sb N nv xs T A Y K) (hx:Ext S w w') (hS:∀ k,SF sb nv xs k->¬S k):PSS w' sb N nv xs T A Y K:=by
 obtain ⟨hf,hfl⟩:=h.fown
 exact ⟨h.p.ext hx (fun k hk=>hS k (.inl hk)),own_ext h.nown hx (fun k hk=>hS k (.inr (.inl hk))),h.few,h.ok,⟨own_ext hf hx (fun k hk=>hS k (.inr (.inr (.inl hk)))),hfl⟩,own_ext h.kown hx (fun k hk=>hS k (.inr (.inr (.inr hk)))),h.ffew,h.kfew,h.tfew,h.afew,h.n1,h.f1,h.k1⟩
theorem PSS.sb_n {w:World} {sb:Nat} {N:List Nm} {nv:Value} {xs:PX} {T A:List Nd} {Y:List (List Value)} {K:List Fr4} (h:PSS w sb N nv xs T A Y K):∀ g,nv.ownBlock=some g->¬g=sb:=fun g hg e=>(h.n1 g hg).1 (.inl (.inl e))
theorem PSS.ps {w:World} {sb:Nat} {N:List Nm} {nv:Value} {xs:PX} {T A:List Nd} {Y:List (List Value)} {K:List Fr4} (h:PSS w sb N nv xs T A Y K):PS w sb N nv xs:=⟨h.p.ts.blk,h.nown,h.sb_n,h.few,h.ok⟩
set_option maxHeartbeats 400000 in
theorem ncount_any {w:World} {sb:Nat} {N:List Nm} {nv:Value} (hc:w.cell? ⟨sb,0,none⟩=some nv) (hown:w.ownsRow 0 142 2 nv N.length (fnCells N)) :
  Calls Tryz.prog 40 #[.pointer (some ⟨sb,0,none⟩)] w fun e w'=>e=.returned (.int .i64 N.length)/\w' = w:=by
 obtain ⟨a,c,rfl⟩:=row_shape hown
 clear hown
 go_enter Tryz.func40,Tryz.ntmps40
 go_wp2_with fail
 go_ret
 exact ⟨rfl,rfl⟩
theorem infoFrame:(Tryz.prog.info? 106).map (fun i=>(i.zero,i.size,i.bytes))=some (some (.agg #[.int .i64 0,.int .i64 0,.int .i64 0,.int .i64 0]),4,32):=by kernel_rfl
def SPost (w:World) (sb:Nat) (nv:Value) (xs:PX) (N':List Nm) (T' A':List Nd) (Y':List (List Value)) (K':List Fr4) (w':World):Prop :=
 Ext (SF sb nv xs) w w'/\∃ nv' xs',PSS w' sb N' nv' xs' T' A' Y' K'/\(∀ k,SF sb nv' xs' k->SF sb nv xs k\/w.heap.size<=k)
theorem PSS.turn {w w':World} {sb:Nat} {N:List Nm} {nv:Value} {xs:PX} {T A:List Nd} {Y:List (List Value)} {K:List Fr4} (h:PSS w sb N nv xs T A Y K) (vd ml:Value) (hx:Ext (fun k=>k=sb) w w') (kb:w'.heap[sb]?=some (.cells #[nv,xs.ts,xs.tm,xs.at_,xs.am,xs.fs,xs.ks,vd,ml] 98)):PSS w' sb N nv { xs with vd:=vd,ml:=ml } T A Y K:=by
 obtain ⟨hf,hfl⟩:=h.fown
 exact ⟨⟨⟨kb,h.p.ts.row.ext hx h.p.ts.s1 h.p.ts.s2,h.p.ts.cl,h.p.ts.nd,h.p.ts.s1,h.p.ts.s2⟩,h.p.ar.ext hx h.p.s3 h.p.s4,h.p.ac,h.p.nd,h.p.s3,h.p.s4,h.p.ap⟩,own_ext h.nown hx h.sb_n,h.few,h.ok,⟨own_ext hf hx (fun q hq e=>(h.f1 q hq).1 (.inl (.inl e))),hfl⟩,own_ext h.kown hx (fun q hq e=>h.k1 q hq (.inl (.inl e))),h.ffew,h.kfew,h.tfew,h.afew,h.n1,h.f1,h.k1⟩
theorem spost_forget {w w1:World} {sb:Nat} {nv:Value} {xs:PX} {N':List Nm} {T' A':List Nd} {Y':List (List Value)} {K':List Fr4} (h:SPost w sb nv xs N' T' A' Y' K' w1) :
  Calls Tryz.prog 42 #[.pointer (some ⟨sb,0,none⟩)] w1 fun e w'=>e=.returned (.tuple #[])/\SPost w sb nv xs N' T' A' Y' K' w':=by
 obtain ⟨hx,nv',xs',hP,hF⟩:=h
 refine (p_forget hP.p.ts.blk).mono ?_
 rintro e w2 ⟨rfl,hx2,kb2⟩
 exact ⟨rfl,hx.trans' hx2 (fun _ _ e=>.inl (.inl (.inl e))),nv',{ xs' with vd:=.int .i64 0,ml:=.map none },hP.turn _ _ hx2 kb2,hF⟩
theorem push_done {w w0 w2:World} {sb g cap':Nat} {N:List Nm} {nv:Value} {xs:PX} {T A:List Nd} {Y:List (List Value)} {K:List Fr4} (h:PSS w sb N nv xs T A Y K) (hk:K.length < 20) (h0:Ext (fun _=>False) w w0) (hgrow:w0.grownBy w2 xs.ks.ownBlock) (hown:w2.ownsRow 0 106 4 (.slice (some ⟨g,0,none⟩) (K.length+1) cap') (K.length+1) (frCells K++[.int .i64 N.length,.int .i64 T.length,.int .i64 A.length,.int .i64 Y.length]))
  (hat:xs.ks.ownBlock=some g\/w.heap.size<=g):SPost w sb nv xs N T A Y (K++[⟨N.length,T.length,A.length,Y.length⟩]) (w2.setCell ⟨sb,6,none⟩ (.slice (some ⟨g,0,none⟩) (K.length+1) cap')):=by
 have hsb:=blt h.p.ts.blk
 have hltP:=h.p.lt
 have hlt:=h.lt
 have s0:=h0.size
 have h2:Ext (fun k=>xs.ks.ownBlock=some k) w w2:=(h0.mono (fun _ _ f=>f.elim)).grown hgrow (fun k hk _=>hk)
 have hW:Ext (fun k=>k=sb) w2 (w2.setCell ⟨sb,6,none⟩ (.slice (some ⟨g,0,none⟩) (K.length+1) cap')):=(Ext.refl (fun k=>k=sb) w2).setCell (p:=⟨sb,6,none⟩) (fun _=>rfl) _
 have hxw:Ext (fun k=>k=sb\/xs.ks.ownBlock=some k) w (w2.setCell ⟨sb,6,none⟩ (.slice (some ⟨g,0,none⟩) (K.length+1) cap')):=(h2.mono (fun _ _ e=>.inr e)).trans' hW (fun _ _ e=>.inl e)
 have hks:∀ k,xs.ks.ownBlock=some k->¬k=sb:=fun k hk e=>h.k1 k hk (.inl (.inl e))
 have hg:∀ k,SF sb nv xs k->¬xs.ks.ownBlock=some k->¬k=g:=by
  intro k hk hn e
  rcases hat with e2 | e2
  ·exact hn (e ▸ e2)
  ·have:=hlt k hk;omega
 have hgs:¬g=sb:=fun e=>hg sb (.inl (.inl (.inl rfl))) (fun e2=>hks sb e2 rfl) e.symm
 have kb2:w2.heap[sb]?=some (.cells #[nv,xs.ts,xs.tm,xs.at_,xs.am,xs.fs,xs.ks,xs.vd,xs.ml] 98):=(h2.block sb hsb (fun e=>hks sb e rfl)).trans h.p.ts.blk
 obtain ⟨hf,hfl⟩:=h.fown
 refine ⟨hxw.mono (fun k _ e=>e.elim (fun e=>.inl (.inl (.inl e))) (fun e=>.inr (.inr (.inr e)))),nv,{ xs with ks:=.slice (some ⟨g,0,none⟩) (K.length+1) cap' },⟨⟨⟨bsc kb2 6 _,?_,h.p.ts.cl,h.p.ts.nd,h.p.ts.s1,h.p.ts.s2⟩,?_,h.p.ac,h.p.nd,h.p.s3,h.p.s4,h.p.ap⟩,?_,h.few,h.ok,⟨?_,hfl⟩,?_,h.ffew,by simp;omega,h.tfew,h.afew,?_,?_,?_⟩,?_⟩
 ·refine h.p.ts.row.ext hxw ?_ ?_
  ·rintro q hq (e | e)
   ·exact h.p.ts.s1 q hq e
   ·exact h.k1 q e (.inl (.inr (.inl hq)))
  ·rintro q hq (e | e)
   ·exact h.p.ts.s2 q hq e
   ·exact h.k1 q e (.inl (.inr (.inr hq)))
 ·refine h.p.ar.ext hxw ?_ ?_
  ·rintro q hq (e | e)
   ·exact h.p.s3 q hq e
   ·exact h.k1 q e (.inr (.inl hq))
  ·rintro q hq (e | e)
   ·exact h.p.s4 q hq e
   ·exact h.k1 q e (.inr (.inr hq))
 ·exact own_ext h.nown hxw (fun q hq e=>e.elim (h.sb_n q hq) (fun e=>(h.n1 q hq).2.2 e))
 ·exact own_ext hf hxw (fun q hq e=>e.elim (fun e=>(h.f1 q hq).1 (.inl (.inl e))) (fun e=>(h.f1 q hq).2 e))
 ·rw [frCells_snoc,List.length_append]
  exact own_ext hown hW (fun q hq e=>by simp [Value.ownBlock] at hq;omega)
 ·intro q hq
  exact ⟨(h.n1 q hq).1,(h.n1 q hq).2.1,fun e=>hg q (.inr (.inl hq)) (h.n1 q hq).2.2 (by simp [Value.ownBlock] at e;exact e.symm)⟩
 ·intro q hq
  exact ⟨(h.f1 q hq).1,fun e=>hg q (.inr (.inr (.inl hq))) (h.f1 q hq).2 (by simp [Value.ownBlock] at e;exact e.symm)⟩
 ·intro q hq hpf
  simp [Value.ownBlock] at hq
  subst hq
  exact hg g (.inl hpf) (fun e=>h.k1 g e hpf) rfl
 ·rintro q (e | e | e | e)
  ·exact .inl (.inl e)
  ·exact .inl (.inr (.inl e))
  ·exact .inl (.inr (.inr (.inl e)))
  ·simp [Value.ownBlock] at e
   subst e
   exact hat.imp (fun e=>.inr (.inr (.inr e))) id
set_option maxRecDepth 100000 in
set_option maxHeartbeats 1000000 in
theorem p_push {w:World} {sb:Nat} {N:List Nm} {nv:Value} {xs:PX} {T A:List Nd} {Y:List (List Value)} {K:List Fr4} (h:PSS w sb N nv xs T A Y K) (hk:K.length < 20) :
  Calls Tryz.prog 18 #[.pointer (some ⟨sb,0,none⟩)] w fun e w'=>e=.returned (.int .i64 0)/\SPost w sb nv xs N T A Y (K++[⟨N.length,T.length,A.length,Y.length⟩]) w':=by
 obtain ⟨hf,hfl⟩:=h.fown
 obtain ⟨fa,fc,e1⟩:=row_shape hf
 obtain ⟨ka,kc,e2⟩:=row_shape h.kown
 obtain ⟨ts,tm,at_,am,fs,ks,vd,ml⟩:=xs
 simp only at e1 e2
 subst e1 e2
 have kb:=h.p.ts.blk
 have c0:=cob kb 0
 have c5:=cob kb 5
 have c6:=cob kb 6
 have hff:=h.ffew
 have hnf:=h.few
 have htf:=h.tfew
 have haf:=h.afew
 have hsb:=blt kb
 have H:=hide h
 have KB:=hide kb
 obtain ⟨i0,hi,hz0,hz1,hz2⟩:=info_parts infoFrame
 clear h hf kb
 go_enter Tryz.func18,Tryz.ntmps18
 go_wp2_with fail
 have HCN:Hid (∀ W:World,W.heap[sb]?=some (.cells #[nv,ts,tm,at_,am,.slice fa Y.length fc,.slice ka K.length kc,vd,ml] 98)->(∀ k,nv.ownBlock=some k->W.heap[k]?=w.heap[k]?)->Calls Tryz.prog 40 #[.pointer (some ⟨sb,0,none⟩)] W fun e w'=>e=.returned (.int .i64 N.length)/\w' = W):=by
  intro W hW hN
  refine ncount_any (N:=N) (cob hW 0) ?_
  refine ⟨H.out.nown.1,?_⟩
  rcases H.out.nown.2 with e | ⟨g,cap,cur,hv,h1,hh,r⟩
  ·exact .inl e
  ·exact .inr ⟨g,cap,cur,hv,h1,(hN g (by rw [hv];rfl)).trans hh,r⟩
 go_region_law (first | (refine step_append_lies _ (by rfl) _ _ _ (by rfl) 0 106 i0 _ 4 32 Tryz.underlying90 hi hz0 hz1 hz2 rfl (by omega) (.slice ka K.length kc) K.length (frCells K) (by rfl) (HO2.out.alloc _) ⟨w2.heap.size,0,none⟩ 1 1 [.int .i64 N.length,.int .i64 T.length,.int .i64 A.length,.int .i64 Y.length] (by rfl) (by rfl) (World.news_of_block (cs:=#[.int .i64 N.length,.int .i64 T.length,.int .i64 A.length,.int .i64 Y.length]) (t:=106) (fr:=(0,0)) (heap_alloc_new w2 _)) (by simp [Value.oneCell']) (by omega) (by unfold maxLen;omega) (by omega) (Nat.zero_le _) (w2.heap.size+1) (by simp) ?_;intro g cap' w3 hown3 hgrow hat hlt3;have kb3:w3.heap[sb]?=some (.cells #[nv,ts,tm,at_,am,.slice fa Y.length fc,.slice ka K.length kc,vd,ml] 98):=(hgrow.block sb (by simp;omega) (fun e=>H.out.k1 sb e.symm (.inl (.inl rfl)))).trans ((Below.heap_alloc w2 _ sb hl2).trans KB2.out);have d6:=cob kb3 6;have d6f:=fob kb3 6) | (go_simp;go_wp2_with (first | (go_at_call 40;refine (HCN.out w.drew KB.out (fun _ _=>rfl)).mono ?_;rintro e w' ⟨rfl,hw⟩;rw [hw];clear hw w') | (go_at_call 41;refine (psize_any (H.out.p.ext ((Ext.refl (fun _=>False) w).drew) (fun _ _ f=>f))).mono ?_;rintro e w2 ⟨rfl,hx2⟩;have HX2:Hid (Ext (fun _=>False) w w2):=((Ext.refl (fun _=>False) w).drew).trans hx2;have KB2:=hide ((HX2.out.block sb hsb (fun f=>f)).trans KB.out);have hl2:=blt KB2.out;have hne2:¬sb=w2.heap.size:=(by omega);have d5:=cob KB2.out 5;have d66:=cob KB2.out 6;have HO2:=hide (own_ext H.out.kown HX2.out (fun _ _ f=>f));clear hx2))))
 all_goals
  have HSP:=hide (push_done H.out hk (w0:=w2.alloc _) (HX2.out.alloc _) hgrow hown3 (hat.imp id (fun e=>by have:=HX2.out.size;omega)))
  go_wp2_with fail
  refine (spost_forget HSP.out).mono ?_
  rintro e w9 ⟨rfl,h9⟩
  have H9:=hide h9
  clear h9
  go_wp2_with fail
  go_ret
  exact ⟨rfl,H9.out⟩
def Goes (w:World) (sb:Nat) (nv:Value) (xs:PX) (nv':Value) (xs':PX) (w':World):Prop:=Ext (SF sb nv xs) w w'/\(∀ k,SF sb nv' xs' k->SF sb nv xs k\/w.heap.size<=k)
theorem Goes.trans {w w1 w2:World} {sb:Nat} {nv nv1 nv2:Value} {xs xs1 xs2:PX} (h:Goes w sb nv xs nv1 xs1 w1) (k:Goes w1 sb nv1 xs1 nv2 xs2 w2):Goes w sb nv xs nv2 xs2 w2:=by
 refine ⟨h.1.trans' k.1 (fun i hi e=>(h.2 i e).elim id (fun e=>by omega)),fun q hq=>?_⟩
 rcases k.2 q hq with e | e
 ·exact h.2 q e
 ·have:=h.1.size;exact .inr (by omega)
theorem Goes.ext {w w1 w2:World} {sb:Nat} {nv nv1:Value} {xs xs1:PX} (h:Goes w sb nv xs nv1 xs1 w1) (hx:Ext (fun _=>False) w1 w2):Goes w sb nv xs nv1 xs1 w2:=⟨h.1.trans (hx.mono (fun _ _ f=>f.elim)),h.2⟩
theorem Goes.of_ext {w w1 w2:World} {sb:Nat} {nv nv1:Value} {xs xs1:PX} (hx:Ext (fun _=>False) w w1) (h:Goes w1 sb nv xs nv1 xs1 w2):Goes w sb nv xs nv1 xs1 w2:=⟨(hx.mono (fun _ _ f=>f.elim)).trans h.1,fun k hk=>(h.2 k hk).imp id (fun e=>Nat.le_trans hx.size e)⟩
section
variable {w w':World} {sb:Nat} {N N':List Nm} {nv nv':Value} {xs:PX} {T A T' A':List Nd} {Y Y':List (List Value)} {K K':List Fr4}
theorem pss_names2 {vd ml:Value} (h:PSS w sb N nv xs T A Y K) (kb:w'.heap[sb]?=some (.cells #[nv',xs.ts,xs.tm,xs.at_,xs.am,xs.fs,xs.ks,vd,ml] 98)) (hown:w'.ownsRow 0 142 2 nv' N'.length (fnCells N')) (hfew:N'.length<=20) (hok:∀ x∈N',0<=x.ar/\x.ar<=3) (hE:Ext (fun k=>k=sb\/nv.ownBlock=some k) w w') (hat:∀ k,nv'.ownBlock=some k->nv.ownBlock=some k\/w.heap.size<=k):PSS w' sb N' nv' { xs with vd:=vd,ml:=ml } T A Y K/\Goes w sb nv xs nv' { xs with vd:=vd,ml:=ml } w':=by
 obtain ⟨hf,hfl⟩:=h.fown
 have hlt:=h.lt
 have hpf:∀ k,PF sb xs k->¬nv.ownBlock=some k:=fun k hk e=>(h.n1 k e).1 hk
 have hno:∀ k,SF sb nv xs k->¬k=sb->¬nv.ownBlock=some k->¬(k=sb\/nv.ownBlock=some k):=fun k _ h1 h2 e=>e.elim h1 h2
 have hnew:∀ k,SF sb nv xs k->¬nv.ownBlock=some k->¬nv'.ownBlock=some k:=by
  intro k hk h1 e
  rcases hat k e with e2 | e2
  ·exact h1 e2
  ·have:=hlt k hk;omega
 refine ⟨⟨⟨⟨kb,?_,h.p.ts.cl,h.p.ts.nd,h.p.ts.s1,h.p.ts.s2⟩,?_,h.p.ac,h.p.nd,h.p.s3,h.p.s4,h.p.ap⟩,hown,hfew,hok,⟨?_,hfl⟩,?_,h.ffew,h.kfew,h.tfew,h.afew,?_,h.f1,h.k1⟩,?_,?_⟩
 ·exact h.p.ts.row.ext hE (fun q hq=>hno q (.inl (.inl (.inr (.inl hq)))) (h.p.ts.s1 q hq) (hpf q (.inl (.inr (.inl hq))))) (fun q hq=>hno q (.inl (.inl (.inr (.inr hq)))) (h.p.ts.s2 q hq) (hpf q (.inl (.inr (.inr hq)))))
 ·exact h.p.ar.ext hE (fun q hq=>hno q (.inl (.inr (.inl hq))) (h.p.s3 q hq) (hpf q (.inr (.inl hq)))) (fun q hq=>hno q (.inl (.inr (.inr hq))) (h.p.s4 q hq) (hpf q (.inr (.inr hq))))
 ·exact own_ext hf hE (fun q hq=>hno q (.inr (.inr (.inl hq))) (fun e=>(h.f1 q hq).1 (.inl (.inl e))) (fun e=>(h.n1 q e).2.1 hq))
 ·exact own_ext h.kown hE (fun q hq=>hno q (.inr (.inr (.inr hq))) (fun e=>h.k1 q hq (.inl (.inl e))) (fun e=>(h.n1 q e).2.2 hq))
 ·intro k hk
  refine ⟨fun e=>hnew k (.inl e) (hpf k e) hk,fun e=>hnew k (.inr (.inr (.inl e))) (fun e2=>(h.n1 k e2).2.1 e) hk,fun e=>hnew k (.inr (.inr (.inr e))) (fun e2=>(h.n1 k e2).2.2 e) hk⟩
 ·exact hE.mono (fun k _ e=>e.elim (fun e=>.inl (.inl (.inl e))) (fun e=>.inr (.inl e)))
 ·rintro k (e | e | e | e)
  ·exact .inl (.inl e)
  ·exact (hat k e).imp (fun e=>.inr (.inl e)) id
  ·exact .inl (.inr (.inr (.inl e)))
  ·exact .inl (.inr (.inr (.inr e)))
theorem pss_names (h:PSS w sb N nv xs T A Y K) (kb:w'.heap[sb]?=some (.cells #[nv',xs.ts,xs.tm,xs.at_,xs.am,xs.fs,xs.ks,xs.vd,xs.ml] 98)) (hown:w'.ownsRow 0 142 2 nv' N'.length (fnCells N')) (hfew:N'.length<=20) (hok:∀ x∈N',0<=x.ar/\x.ar<=3) (hE:Ext (fun k=>k=sb\/nv.ownBlock=some k) w w') (hat:∀ k,nv'.ownBlock=some k->nv.ownBlock=some k\/w.heap.size<=k):PSS w' sb N' nv' xs T A Y K/\Goes w sb nv xs nv' xs w':=pss_names2 h kb hown hfew hok hE hat
theorem pss_pool (h:PSS w sb N nv xs T A Y K) (hap:APost w sb nv xs T' A' w') (ht:T'.length<=12) (ha:A'.length<=16):∃ xs',PSS w' sb N nv xs' T' A' Y K/\xs'.fs=xs.fs/\xs'.ks=xs.ks/\Goes w sb nv xs nv xs' w':=by
 obtain ⟨ts',tm',at',am',k1,k2,k3⟩:=hap
 obtain ⟨hf,hfl⟩:=h.fown
 have hlt:=h.lt
 have hnp:∀ k,SF sb nv xs k->¬PF sb xs k->¬PF sb { xs with ts:=ts',tm:=tm',at_:=at',am:=am' } k:=by
  intro k hk h1 e
  rcases k3 k e with e2 | e2
  ·exact h1 e2
  ·have:=hlt k hk;omega
 refine ⟨{ xs with ts:=ts',tm:=tm',at_:=at',am:=am' },⟨k1,own_ext h.nown k2 (fun q hq=>(h.n1 q hq).1),h.few,h.ok,⟨own_ext hf k2 (fun q hq=>(h.f1 q hq).1),hfl⟩,own_ext h.kown k2 (fun q hq=>h.k1 q hq),h.ffew,h.kfew,ht,ha,fun k hk=>⟨hnp k (.inr (.inl hk)) (h.n1 k hk).1,(h.n1 k hk).2.1,(h.n1 k hk).2.2⟩,fun k hk=>⟨hnp k (.inr (.inr (.inl hk))) (h.f1 k hk).1,(h.f1 k hk).2⟩,fun k hk=>hnp k (.inr (.inr (.inr hk))) (h.k1 k hk)⟩,rfl,rfl,k2.mono (fun _ _ e=>.inl e),?_⟩
 rintro k (e | e | e | e)
 ·exact (k3 k e).imp .inl id
 ·exact .inl (.inr (.inl e))
 ·exact .inl (.inr (.inr (.inl e)))
 ·exact .inl (.inr (.inr (.inr e)))
theorem pss_fml {fv':Value} (h:PSS w sb N nv xs T A Y K) (kb:w'.heap[sb]?=some (.cells #[nv,xs.ts,xs.tm,xs.at_,xs.am,fv',xs.ks,xs.vd,xs.ml] 98)) (hown:w'.ownsRow 0 112 4 fv' Y'.length Y'.flatten) (hfl:∀ cs∈Y',cs.length=4) (hfew:Y'.length<=20) (hE:Ext (fun k=>k=sb\/xs.fs.ownBlock=some k) w w') (hat:∀ k,fv'.ownBlock=some k->xs.fs.ownBlock=some k\/w.heap.size<=k):PSS w' sb N nv { xs with fs:=fv' } T A Y' K/\Goes w sb nv xs nv { xs with fs:=fv' } w':=by
 have hlt:=h.lt
 have hpf:∀ k,PF sb xs k->¬xs.fs.ownBlock=some k:=fun k hk e=>(h.f1 k e).1 hk
 have hnew:∀ k,SF sb nv xs k->¬xs.fs.ownBlock=some k->¬fv'.ownBlock=some k:=by
  intro k hk h1 e
  rcases hat k e with e2 | e2
  ·exact h1 e2
  ·have:=hlt k hk;omega
 refine ⟨⟨⟨⟨kb,?_,h.p.ts.cl,h.p.ts.nd,h.p.ts.s1,h.p.ts.s2⟩,?_,h.p.ac,h.p.nd,h.p.s3,h.p.s4,h.p.ap⟩,?_,h.few,h.ok,⟨hown,hfl⟩,?_,hfew,h.kfew,h.tfew,h.afew,?_,?_,h.k1⟩,?_,?_⟩
 ·exact h.p.ts.row.ext hE (fun q hq e=>e.elim (h.p.ts.s1 q hq) (hpf q (.inl (.inr (.inl hq))))) (fun q hq e=>e.elim (h.p.ts.s2 q hq) (hpf q (.inl (.inr (.inr hq)))))
 ·exact h.p.ar.ext hE (fun q hq e=>e.elim (h.p.s3 q hq) (hpf q (.inr (.inl hq)))) (fun q hq e=>e.elim (h.p.s4 q hq) (hpf q (.inr (.inr hq))))
 ·exact own_ext h.nown hE (fun q hq e=>e.elim (h.sb_n q hq) (h.n1 q hq).2.1)
 ·exact own_ext h.kown hE (fun q hq e=>e.elim (fun e=>h.k1 q hq (.inl (.inl e))) (fun e=>(h.f1 q e).2 hq))
 ·exact fun k hk=>⟨(h.n1 k hk).1,fun e=>hnew k (.inr (.inl hk)) (h.n1 k hk).2.1 e,(h.n1 k hk).2.2⟩
 ·intro k hk
  exact ⟨fun e=>hnew k (.inl e) (hpf k e) hk,fun e=>hnew k (.inr (.inr (.inr e))) (fun e2=>(h.f1 k e2).2 e) hk⟩
 ·exact hE.mono (fun k _ e=>e.elim (fun e=>.inl (.inl (.inl e))) (fun e=>.inr (.inr (.inl e))))
 ·rintro k (e | e | e | e)
  ·exact .inl (.inl e)
  ·exact .inl (.inr (.inl e))
  ·exact (hat k e).imp (fun e=>.inr (.inr (.inl e))) id
  ·exact .inl (.inr (.inr (.inr e)))
theorem pss_frames {ka:Option Addr} {kc m:Nat} (h:PSS w sb N nv xs T A Y K) (hks:xs.ks=.slice ka K.length kc) (hm:m<=K.length) (hE:Ext (fun k=>k=sb) w w') (kb:w'.heap[sb]?=some (.cells #[nv,xs.ts,xs.tm,xs.at_,xs.am,xs.fs,.slice ka m kc,xs.vd,xs.ml] 98)):PSS w' sb N nv { xs with ks:=.slice ka m kc } T A Y (K.take m)/\Goes w sb nv xs nv { xs with ks:=.slice ka m kc } w':=by
 obtain ⟨hf,hfl⟩:=h.fown
 have hob:(Value.slice ka m kc).ownBlock=xs.ks.ownBlock:=by rw [hks];cases ka <;> rfl
 have hlm:(K.take m).length=m:=by rw [List.length_take];omega
 have hcells:frCells (K.take m)=(frCells K).take (m * 4):=by
  have e:frCells K=frCells (K.take m)++frCells (K.drop m):=by unfold frCells;rw [<- List.flatMap_append,List.take_append_drop]
  have h1:(frCells (K.take m)).length=m * 4:=by rw [frCells_len,hlm]
  rw [e,List.take_append_of_le_length (by omega)]
  exact (List.take_of_length_le (by omega)).symm
 have hown:w.ownsRow 0 106 4 (.slice ka m kc) m (frCells (K.take m)):=by
  have hk:=h.kown
  rw [hks] at hk
  refine ⟨by rw [frCells_len,hlm],?_⟩
  rcases hk.2 with ⟨e,e0⟩ | ⟨g,cap,cur,hv,h1,hh,h2,h3,h4,h5⟩
  ·have hm0:m=0:=by omega
   simp only [Value.slice.injEq] at e
   exact .inl ⟨by rw [e.1,e.2.2,hm0],hm0⟩
  ·cases hv
   refine .inr ⟨g,kc,cur,rfl,h1,hh,by omega,h3,h4,?_⟩
   rw [hcells,<- h5,List.take_take,Nat.min_eq_left (Nat.mul_le_mul_right 4 hm)]
 refine ⟨⟨⟨⟨kb,?_,h.p.ts.cl,h.p.ts.nd,h.p.ts.s1,h.p.ts.s2⟩,?_,h.p.ac,h.p.nd,h.p.s3,h.p.s4,h.p.ap⟩,?_,h.few,h.ok,⟨?_,hfl⟩,?_,h.ffew,by rw [hlm];have:=h.kfew;omega,h.tfew,h.afew,?_,?_,?_⟩,?_,?_⟩
 ·exact h.p.ts.row.ext hE h.p.ts.s1 h.p.ts.s2
 ·exact h.p.ar.ext hE h.p.s3 h.p.s4
 ·exact own_ext h.nown hE h.sb_n
 ·exact own_ext hf hE (fun q hq e=>(h.f1 q hq).1 (.inl (.inl e)))
 ·rw [hlm]
  exact own_ext hown hE (fun q hq e=>h.k1 q (hob ▸ hq) (.inl (.inl e)))
 ·exact fun k hk=>⟨(h.n1 k hk).1,(h.n1 k hk).2.1,fun e=>(h.n1 k hk).2.2 (hob ▸ e)⟩
 ·exact fun k hk=>⟨(h.f1 k hk).1,fun e=>(h.f1 k hk).2 (hob ▸ e)⟩
 ·exact fun k hk=>h.k1 k (hob ▸ hk)
 ·exact hE.mono (fun k _ e=>.inl (.inl (.inl e)))
 ·rintro k (e | e | e | e)
  ·exact .inl (.inl e)
  ·exact .inl (.inr (.inl e))
  ·exact .inl (.inr (.inr (.inl e)))
  ·exact .inl (.inr (.inr (.inr (hob ▸ e))))
end
theorem fnCells_take {N:List Nm} {n:Nat} (hn:n<=N.length):(fnCells N).take (n * 2)=fnCells (N.take n):=by
 have e:fnCells N=fnCells (N.take n)++fnCells (N.drop n):=by unfold fnCells;rw [<- List.flatMap_append,List.take_append_drop]
 have hl:(N.take n).length=n:=by rw [List.length_take];omega
 rw [e,List.take_append_of_le_length (by rw [fnCells_len,hl];exact Nat.le_refl _),List.take_of_length_le (by rw [fnCells_len,hl];exact Nat.le_refl _)]
set_option maxRecDepth 100000 in
set_option maxHeartbeats 1000000 in
theorem ncut_any {w:World} {sb n:Nat} {N:List Nm} {nv:Value} {xs:PX} (kb:w.heap[sb]?=some (.cells #[nv,xs.ts,xs.tm,xs.at_,xs.am,xs.fs,xs.ks,xs.vd,xs.ml] 98)) (hown:w.ownsRow 0 142 2 nv N.length (fnCells N)) (hs:∀ k,nv.ownBlock=some k->¬k=sb) (hN:N.length<=20) (hn:n<=N.length) :
  Calls Tryz.prog 43 #[.pointer (some ⟨sb,0,none⟩),.int .i64 n] w fun e w'=>e=.returned (.tuple #[])/\∃ nv',w'.heap[sb]?=some (.cells #[nv',xs.ts,xs.tm,xs.at_,xs.am,xs.fs,xs.ks,xs.vd,xs.ml] 98)/\w'.ownsRow 0 142 2 nv' (N.take n).length (fnCells (N.take n))/\Ext (fun k=>k=sb\/nv.ownBlock=some k) w w'/\nv'.ownBlock=nv.ownBlock:=by
 obtain ⟨a,c,rfl⟩:=row_shape hown
 have c0:=cob kb 0
 have hsb:=blt kb
 have KB:=hide kb
 have HS:=hide hs
 have HOR:=hide (own_ext hown ((Ext.refl (fun _=>False) w).drew) (fun _ _ f=>f))
 have hl:(N.take n).length=n:=by rw [List.length_take];omega
 have HL:=hide hl
 have HFT:=hide (fnCells_take hn)
 clear kb hs hown hl
 go_enter Tryz.func43,Tryz.ntmps43
 go_wp2_with fail
 go_region_law (go_simp;go_wp2_with (go_at_call 64;refine (del_fn HOR.out hn (by omega)).mono ?_;rintro e w2 ⟨v',rfl,hown2,hx2,hob⟩;obtain ⟨va,vc,rfl⟩:=row_shape hown2;have kb2:w2.heap[sb]?=some (.cells #[.slice a N.length c,xs.ts,xs.tm,xs.at_,xs.am,xs.fs,xs.ks,xs.vd,xs.ml] 98):=(hx2.block sb hsb (fun e=>HS.out sb e rfl)).trans KB.out;have d0:=cob kb2 0;have d0f:=fob kb2 0))
 all_goals
  go_wp2_with fail
  go_end0
  have hW:Ext (fun k=>k=sb) w2 (w2.setCell ⟨sb,0,none⟩ (.slice va n vc)):=(Ext.refl (fun k=>k=sb) w2).setCell (p:=⟨sb,0,none⟩) (fun _=>rfl) _
  refine ⟨rfl,.slice va n vc,bsc kb2 0 _,?_,?_,hob⟩
  ·rw [HFT.out] at hown2
   rw [HL.out]
   exact own_ext hown2 hW (fun k hk e=>HS.out k (hob ▸ hk) e)
  ·exact ((((Ext.refl (fun k=>(Value.slice a N.length c).ownBlock=some k) w).drew).trans hx2).mono (fun _ _ e=>.inr e)).trans' hW (fun _ _ e=>.inl e)
theorem rows_take {Y:List (List Value)} (h:∀ cs∈Y,cs.length=4):∀ {m:Nat},(Y.take m).flatten=Y.flatten.take (m * 4):=by
 induction Y with
 | nil=>intro m;simp
 | cons a Y ih =>
  intro m
  have ha:=h a (by simp)
  cases m with
  | zero=>simp
  | succ m =>
   rw [List.take_succ_cons,List.flatten_cons,List.flatten_cons,ih (fun cs hc=>h cs (by simp [hc])),List.take_append,List.take_of_length_le (i:=(m+1) * 4) (by omega),ha]
   congr 2
   omega
theorem fr_last {w:World} {ks:Value} {K:List Fr4} {fr:Fr4} (h:w.ownsRow 0 106 4 ks (K++[fr]).length (frCells (K++[fr]))):∃ g kc,ks=.slice (some ⟨g,0,none⟩) (K.length+1) kc/\K.length+1<=kc/\kc<=9223372036854775807/\g < w.heap.size/\w.cell? ⟨g,K.length * 4,none⟩=some (.int .i64 fr.n)/\w.cell? ⟨g,K.length * 4+1,none⟩=some (.int .i64 fr.t)/\w.cell? ⟨g,K.length * 4+2,none⟩=some (.int .i64 fr.a)/\w.cell? ⟨g,K.length * 4+3,none⟩=some (.int .i64 fr.f):=by
 have hl:(K++[fr]).length=K.length+1:=by simp
 rcases h.2 with ⟨e,e0⟩ | ⟨g,cap,cur,hv,_,hh,h1,h2,_⟩
 ·rw [hl] at e0;omega
 ·have h3:=h
  rw [hv] at h3
  have hc:∀ q,q < 4->w.cell? ⟨g,K.length * 4+q,none⟩=[Value.int .i64 fr.n,.int .i64 fr.t,.int .i64 fr.a,.int .i64 fr.f][q]?:=by
   intro q hq
   rw [h3.cellAt _ (by rw [hl];omega),frCells_snoc,List.getElem?_append_right (by rw [frCells_len];omega),frCells_len,show K.length * 4+q - K.length * 4=q by omega]
  rw [hl] at hv h1
  exact ⟨g,cap,hv,h1,by unfold maxLen at h2;exact h2,blt hh,hc 0 (by decide),hc 1 (by decide),hc 2 (by decide),hc 3 (by decide)⟩
set_option maxRecDepth 100000 in
set_option maxHeartbeats 1000000 in
theorem p_pop {w:World} {sb:Nat} {N:List Nm} {nv:Value} {xs:PX} {T A:List Nd} {Y:List (List Value)} {K:List Fr4} {fr:Fr4} (h:PSS w sb N nv xs T A Y (K++[fr])) (hn:fr.n<=N.length) (ht:fr.t<=T.length) (ha:fr.a<=A.length) (hf:fr.f<=Y.length) (hac:AC (T.take fr.t) (A.take fr.a)) :
  Calls Tryz.prog 19 #[.pointer (some ⟨sb,0,none⟩)] w fun e w'=>e=.returned (.int .i64 0)/\SPost w sb nv xs (N.take fr.n) (T.take fr.t) (A.take fr.a) (Y.take fr.f) K w':=by
 obtain ⟨g,kc,hks,hkc,hkc2,hgl,z0,z1,z2,z3⟩:=fr_last h.kown
 have hgs:¬g=sb:=fun e=>h.k1 g (by rw [hks];rfl) (.inl (.inl e))
 obtain ⟨ts,tm,at_,am,fs,ks,vd,ml⟩:=xs
 simp only at hks
 subst hks
 have hkl:(K++[fr]).length=K.length+1:=by simp
 have kb:=h.p.ts.blk
 have c6:=cob kb 6
 have f6:=fob kb 6
 have hsb:=blt kb
 have hk20:=h.kfew
 rw [hkl] at hk20
 have hnf:=h.few
 have htf:=h.tfew
 have haf:=h.afew
 have hff:=h.ffew
 have H:=hide h
 have KB:=hide kb
 have HAC:=hide hac
 clear h kb hac hkl
 go_enter Tryz.func19,Tryz.ntmps19
 go_wp2_with fail
 obtain ⟨V,hV⟩:∃ V,(w.setCell ⟨sb,6,none⟩ (.slice (some ⟨g,0,none⟩) K.length kc)).alloc (.cells #[.int .i64 fr.n,.int .i64 fr.t,.int .i64 fr.a,.int .i64 fr.f] 106)=V:=⟨_,rfl⟩
 have hUE:Ext (fun k=>k=sb) w (w.setCell ⟨sb,6,none⟩ (.slice (some ⟨g,0,none⟩) K.length kc)):=(Ext.refl (fun k=>k=sb) w).setCell (p:=⟨sb,6,none⟩) (fun _=>rfl) _
 obtain ⟨hU1,hU2⟩:=pss_frames (m:=K.length) H.out (ka:=some ⟨g,0,none⟩) (kc:=kc) (by simp) (by simp) hUE (bsc KB.out 6 _)
 rw [List.take_append_of_le_length (Nat.le_refl _),List.take_of_length_le (Nat.le_refl _)] at hU1
 have hxV:Ext (fun _=>False) (w.setCell ⟨sb,6,none⟩ (.slice (some ⟨g,0,none⟩) K.length kc)) V:=by rw [<- hV];exact (Ext.refl _ _).alloc _
 have hP0:=hU1.ext hxV (fun _ _ f=>f)
 have hP1:=hP0.ext ((Ext.refl (fun _=>False) V).drew) (fun _ _ f=>f)
 have HG1:=hide ((hU2.ext hxV).ext ((Ext.refl (fun _=>False) V).drew))
 have kF:V.heap[w.heap.size]?=some (.cells #[.int .i64 fr.n,.int .i64 fr.t,.int .i64 fr.a,.int .i64 fr.f] 106):=by
  rw [<- hV]
  have e:=heap_alloc_new (w.setCell ⟨sb,6,none⟩ (.slice (some ⟨g,0,none⟩) K.length kc)) (.cells #[.int .i64 fr.n,.int .i64 fr.t,.int .i64 fr.a,.int .i64 fr.f] 106)
  simpa using e
 have HLTW:Hid (∀ k,SF sb nv ⟨ts,tm,at_,am,fs,.slice (some ⟨g,0,none⟩) K.length kc,vd,ml⟩ k->k < w.heap.size):=fun k hk=>by
  have:=hU1.lt k hk
  simpa using this
 have HC1:=hide (ncut_any (n:=fr.n) hP1.p.ts.blk hP1.nown hP1.sb_n hP1.few hn)
 have HP1:=hide hP1
 have KF:=hide kF
 have v0:=cob kF 0
 have hFl:=blt kF
 rw [hV]
 clear hV hUE hU1 hU2 hxV hP0 hP1 kF c6 f6 z0 z1 z2 z3
 go_region_law (go_simp;go_wp2_with (go_at_call 43;refine HC1.out.mono ?_;rintro e w1 ⟨rfl,nv1,q1,q2,q3,q4⟩;have Q1:=hide q1;have Q2:=hide q2;have Q3:=hide q3;have Q4:=hide q4;clear q1 q2 q3 q4))
 all_goals
  obtain ⟨hP2,hG2⟩:=pss_names HP1.out Q1.out Q2.out (by rw [List.length_take];omega) (fun x hx=>HP1.out.ok x (List.mem_of_mem_take hx)) Q3.out (fun k hk=>.inl (Q4.out ▸ hk))
  have kF1:w1.heap[w.heap.size]?=some (.cells #[.int .i64 fr.n,.int .i64 fr.t,.int .i64 fr.a,.int .i64 fr.f] 106):=(hG2.1.block _ hFl (fun e=>by have:=HLTW.out _ e;omega)).trans KF.out
  have v1:=cob kF1 1
  have v2:=cob kF1 2
  have hFl1:=blt kF1
  have hP2d:=hP2.ext ((Ext.refl (fun _=>False) w1).drew) (fun _ _ f=>f)
  have HG2:=hide ((HG1.out.trans hG2).ext ((Ext.refl (fun _=>False) w1).drew))
  have HP2:=hide hP2d
  have HC2:=hide (pcut_any (n:=fr.t) (m:=fr.a) hP2d.p ht ha (by omega) (by omega) HAC.out)
  have KF1:=hide kF1
  have hSF:∀ k,SF sb nv1 ⟨ts,tm,at_,am,fs,.slice (some ⟨g,0,none⟩) K.length kc,vd,ml⟩ k->¬k=w.heap.size:=by
   rintro k (e | e | e | e) rfl
   ·have:=HLTW.out _ (.inl e);omega
   ·have:=HLTW.out _ (.inr (.inl (Q4.out ▸ e)));omega
   ·have:=HLTW.out _ (.inr (.inr (.inl e)));omega
   ·have:=HLTW.out _ (.inr (.inr (.inr e)));omega
  have HSF:=hide hSF
  clear hP2 hG2 kF1 hP2d hSF v0
  go_wp2_with fail
  go_region_law (go_simp;go_wp2_with (go_at_call 44;refine HC2.out.mono ?_;rintro e w2 ⟨rfl,hap⟩;have HAP:=hide hap;clear hap))
  all_goals
   obtain ⟨xs3,hP3,he5,he6,hG3⟩:=pss_pool HP2.out HAP.out (by rw [List.length_take];omega) (by rw [List.length_take];omega)
   have kF2:w2.heap[w.heap.size]?=some (.cells #[.int .i64 fr.n,.int .i64 fr.t,.int .i64 fr.a,.int .i64 fr.f] 106):=(hG3.1.block _ hFl1 (fun e=>HSF.out _ e rfl)).trans KF1.out
   have v3:=cob kF2 3
   obtain ⟨hfo,hfl⟩:=hP3.fown
   obtain ⟨fa,fc,hfv⟩:=row_shape hfo
   obtain ⟨ts3,tm3,at3,am3,fs3,ks3,vd3,ml3⟩:=xs3
   simp only at he5 he6 hfv
   subst he5 he6 hfv
   have kb3:=hP3.p.ts.blk
   have e5:=cob kb3 5
   have hs3:=blt kb3
   have HOR:=hide (own_ext hfo ((Ext.refl (fun _=>False) w2).drew) (fun _ _ f=>f))
   have HP3:=hide (hP3.ext ((Ext.refl (fun _=>False) w2).drew) (fun _ _ f=>f))
   have HG3:=hide ((HG2.out.trans hG3).ext ((Ext.refl (fun _=>False) w2).drew))
   have KB3:=hide kb3
   clear hP3 hG3 kF2 hfo kb3 v1 v2
   go_wp2_with fail
   go_region_law (go_simp;go_wp2_with (go_at_call 45;refine (del_fm HOR.out hf (by omega)).mono ?_;rintro e w3 ⟨v',rfl,hown3,hx3,hob⟩;obtain ⟨va,vc,rfl⟩:=row_shape hown3;have kb4:w3.heap[sb]?=some (.cells #[nv1,ts3,tm3,at3,am3,.slice fa Y.length fc,.slice (some ⟨g,0,none⟩) K.length kc,vd3,ml3] 98):=(hx3.block sb hs3 (fun e=>(HP3.out.f1 sb e).1 (.inl (.inl rfl)))).trans KB3.out;have d5:=cob kb4 5;have d5f:=fob kb4 5))
   all_goals
    have hW:Ext (fun k=>k=sb) w3 (w3.setCell ⟨sb,5,none⟩ (.slice va fr.f vc)):=(Ext.refl (fun k=>k=sb) w3).setCell (p:=⟨sb,5,none⟩) (fun _=>rfl) _
    obtain ⟨hP4,hG4⟩:=pss_fml (Y':=Y.take fr.f) HP3.out (bsc kb4 5 _) (by rw [List.length_take,Nat.min_eq_left hf,rows_take hfl];exact own_ext hown3 hW (fun k hk e=>(HP3.out.f1 k (hob ▸ hk)).1 (.inl (.inl e)))) (fun cs hc=>hfl cs (List.mem_of_mem_take hc)) (by rw [List.length_take];omega) ((hx3.mono (fun _ _ e=>Or.inr e)).trans' hW (fun _ _ e=>Or.inl e)) (fun k hk=>.inl (hob ▸ hk))
    have hG:=HG3.out.trans hG4
    have HSP:Hid (SPost w sb nv _ _ _ _ _ _ _):=hide ⟨hG.1,_,_,hP4,hG.2⟩
    clear hP4 hG4 hG
    go_wp2_with fail
    refine (spost_forget HSP.out).mono ?_
    rintro e w9 ⟨rfl,h9⟩
    have H9:=hide h9
    clear h9
    go_wp2_with fail
    go_ret
    exact ⟨rfl,H9.out⟩
theorem own_last4 {w:World} {e n g cap:Nat} {xs:List Value} {z0 z1 z2 z3:Value} (h:w.ownsRow 0 e 4 (.slice (some ⟨g,0,none⟩) (n+1) cap) (n+1) (xs++[z0,z1,z2,z3])) (hl:xs.length=n * 4) (ua ub uc ud:Value):((((w.setCell ⟨g,n * 4,none⟩ ua).setCell ⟨g,n * 4+1,none⟩ ub).setCell ⟨g,n * 4+2,none⟩ uc).setCell ⟨g,n * 4+3,none⟩ ud).ownsRow 0 e 4 (.slice (some ⟨g,0,none⟩) (n+1) cap) (n+1) (xs++[ua,ub,uc,ud]):=by
 rcases h.2 with ⟨e0,_⟩ | ⟨g',cap',cur,hv,hg,hh,h1,h2,h3,h4⟩
 ·cases e0
 ·cases hv
  refine ⟨by simp [hl];omega,.inr ⟨g,cap,_,rfl,hg,bsc (bsc (bsc (bsc hh _ ua) _ ub) _ uc) _ ud,h1,h2,by simpa using h3,?_⟩⟩
  have ec:cur.toList=xs++(z0 :: z1 :: z2 :: z3 :: cur.toList.drop ((n+1) * 4)):=by
   conv=>lhs;rw [<- List.take_append_drop ((n+1) * 4) cur.toList,h4]
   simp
  simp only [Array.toList_setIfInBounds]
  rw [ec,List.set_append_right _ _ (by omega),List.set_append_right _ _ (by omega),List.set_append_right _ _ (by omega),List.set_append_right _ _ (by omega),hl,Nat.sub_self,Nat.add_sub_cancel_left,Nat.add_sub_cancel_left,Nat.add_sub_cancel_left]
  simp only [List.set_cons_zero,List.set_cons_succ]
  rw [List.take_append,List.take_of_length_le (by omega),hl,show (n+1) * 4 - n * 4=4 by omega]
  simp
section
variable {w:World} {sb:Nat} {N:List Nm} {nv:Value} {xs:PX} {T A:List Nd} {Y:List (List Value)} {K:List Fr4}
def PAPost (w:World) (sb:Nat) (N:List Nm) (nv:Value) (xs:PX) (T A:List Nd) (Y:List (List Value)) (K:List Fr4) (p c:Int) (e:Ending) (w':World):Prop :=
 e=.returned (.tuple #[.int .i64 p,.int .i64 c])/\SPost w sb nv xs N T A Y K w'
theorem pa_same (h:PSS w sb N nv xs T A Y K) {w':World} (hx:Ext (fun _=>False) w w'):SPost w sb nv xs N T A Y K w':=⟨hx.mono (fun _ _ f=>f.elim),nv,xs,h.ext hx (fun _ _ f=>f),fun _ hk=>.inl hk⟩
set_option maxHeartbeats 1000000 in
theorem pa_long (s:ByteArray) (h:PSS w sb N nv xs T A Y K) (hs:600 < s.size) (hm:s.size<=maxLen) :
  Calls Tryz.prog 25 #[.pointer (some ⟨sb,0,none⟩),.string s] w (PAPost w sb N nv xs T A Y K 0 1):=by
 have HC:=hide (p_Formula_long (.pointer (some ⟨sb,0,none⟩)) s w hs hm)
 have c0:=cob h.p.ts.blk 0
 have H:=hide h
 clear h hs hm
 go_enter Tryz.func25,Tryz.ntmps25
 go_wp2_with fail
 refine HC.out.mono ?_
 rintro e w1 ⟨rfl,hx1⟩
 have HX1:=hide hx1
 clear hx1
 go_wp2_with fail
 go_ret2
 exact ⟨rfl,pa_same H.out (HX1.out.alloc _)⟩
set_option maxHeartbeats 1000000 in
theorem pa_no (s:ByteArray) {e:Int} {p:Nat} (h:PSS w sb N nv xs T A Y K) (hs:s.size<=600) (hhd:HdLaid w) (hr:rdWhole N s.toList=.no e p) :
  Calls Tryz.prog 25 #[.pointer (some ⟨sb,0,none⟩),.string s] w (PAPost w sb N nv xs T A Y K p e):=by
 have HC:=hide (p_Formula s w hs h.ps.tab hhd)
 have he0:(e == 0)=false:=by simpa using whole_no hr
 have c0:=cob h.p.ts.blk 0
 have H:=hide h
 have HR:=hide hr
 clear h hs hhd hr
 go_enter Tryz.func25,Tryz.ntmps25
 go_wp2_with fail
 refine HC.out.mono ?_
 rintro en w1 ⟨hx1,hm⟩
 rw [HR.out] at hm
 subst hm
 have HX1:=hide hx1
 clear hx1
 go_wp2_with fail
 go_ret2
 exact ⟨rfl,pa_same H.out (HX1.out.alloc _)⟩
set_option maxHeartbeats 1000000 in
theorem pa_full (s:ByteArray) {nd:Nd} {us:List Tk} (h:PSS w sb N nv xs T A Y K) (hs:s.size<=600) (hhd:HdLaid w) (hr:rdWhole N s.toList=.ok nd us) (hf:20<=Y.length) :
  Calls Tryz.prog 25 #[.pointer (some ⟨sb,0,none⟩),.string s] w (PAPost w sb N nv xs T A Y K 0 8):=by
 have HC:=hide (p_Formula s w hs h.ps.tab hhd)
 obtain ⟨hfo,_⟩:=h.fown
 obtain ⟨fa,fc,e1⟩:=row_shape hfo
 have kb:=h.p.ts.blk
 rw [e1] at kb
 have c0:=cob kb 0
 have hsb:=blt kb
 have KB:=hide kb
 have H:=hide h
 have HR:=hide hr
 clear h hs hhd hr hfo e1 kb
 go_enter Tryz.func25,Tryz.ntmps25
 go_wp2_with fail
 refine HC.out.mono ?_
 rintro en w1 ⟨hx1,hm⟩
 rw [HR.out] at hm
 obtain ⟨k,wd,v,sa,sn,sc,rfl,_⟩:=hm
 have kb1:=(hx1.block sb hsb (fun f=>f)).trans KB.out
 have c5:=cob kb1 5
 have hl1:=blt kb1
 have hne:¬sb=w1.heap.size:=by omega
 have HX1:=hide hx1
 clear hx1 kb1 c0
 go_wp2_with fail
 go_ret2
 exact ⟨rfl,pa_same H.out (HX1.out.alloc _)⟩
theorem zb_kept {V w2:World} {b n:Nat} {o:Obj} {T' A':List Nd} (hlt:∀ k,SF sb nv xs k->k < b) (hb:b<=n) (hn:V.heap.size=n+1) (h:APost (V.alloc o).drew sb nv xs T' A' w2):w2.heap[n+1]?=some o:=by
 obtain ⟨_,_,_,_,_,k2,_⟩:=h
 rw [<- hn]
 refine (k2.block _ (by show V.heap.size < (V.alloc o).heap.size;simp) (fun e=>?_)).trans (heap_alloc_new V o)
 have:=hlt _ (.inl e)
 omega
theorem zb_free {V:World} {b n:Nat} {o:Obj} {xs3:PX} (hlt:∀ k,SF sb nv xs k->k < b) (hb:b<=n) (hn:V.heap.size=n+1) (hF:∀ k,SF sb nv xs3 k->SF sb nv xs k\/(V.alloc o).drew.heap.size<=k):∀ k,SF sb nv xs3 k->¬k=n+1:=by
 intro k hk e
 have hs:(V.alloc o).drew.heap.size=V.heap.size+1:=by show (V.alloc o).heap.size=_;simp
 rcases hF k hk with h | h
 ·have:=hlt k h;omega
 ·omega
theorem ext_set4 (w:World) (g a b c d:Nat) (ua ub uc ud:Value):Ext (fun k=>k=g) w ((((w.setCell ⟨g,a,none⟩ ua).setCell ⟨g,b,none⟩ ub).setCell ⟨g,c,none⟩ uc).setCell ⟨g,d,none⟩ ud) :=
 ((((Ext.refl (fun k=>k=g) w).setCell (p:=⟨g,a,none⟩) (fun _=>rfl) _).setCell (p:=⟨g,b,none⟩) (fun _=>rfl) _).setCell (p:=⟨g,c,none⟩) (fun _=>rfl) _).setCell (p:=⟨g,d,none⟩) (fun _=>rfl) _
theorem row_at {w:World} {e n g cap:Nat} {xs:List Value} {a b c d:Value} (h:w.ownsRow 0 e 4 (.slice (some ⟨g,0,none⟩) (n+1) cap) (n+1) (xs++[a,b,c,d])) (hl:xs.length=n * 4):w.cell? ⟨g,n * 4,none⟩=some a/\w.cell? ⟨g,n * 4+1,none⟩=some b/\w.cell? ⟨g,n * 4+2,none⟩=some c/\w.cell? ⟨g,n * 4+3,none⟩=some d:=by
 have hc:∀ q,q < 4->w.cell? ⟨g,n * 4+q,none⟩=[a,b,c,d][q]?:=by
  intro q hq
  rw [h.cellAt _ (by omega),List.getElem?_append_right (by omega),hl,show n * 4+q - n * 4=q by omega]
 exact ⟨hc 0 (by decide),hc 1 (by decide),hc 2 (by decide),hc 3 (by decide)⟩
def TookF (w:World) (sb:Nat) (A':List Nd) (cs:List Value) (nd:Nd) (w':World):Prop :=
 FT w' (fun q=>w.heap.size<=q/\∀ v,w'.cell? ⟨sb,5,none⟩=some v->¬v.ownBlock=some q) A' cs nd
theorem spost_forgetF {w1:World} {N':List Nm} {T' A':List Nd} {Y':List (List Value)} {K':List Fr4} {cs:List Value} {nd:Nd} (h:SPost w sb nv xs N' T' A' Y' K' w1) (hf:TookF w sb A' cs nd w1) (hsb:sb < w.heap.size) :
  Calls Tryz.prog 42 #[.pointer (some ⟨sb,0,none⟩)] w1 fun e w'=>e=.returned (.tuple #[])/\SPost w sb nv xs N' T' A' Y' K' w'/\TookF w sb A' cs nd w':=by
 obtain ⟨hx,nv',xs',hP,hF⟩:=h
 refine (p_forget hP.p.ts.blk).mono ?_
 rintro e w2 ⟨rfl,hx2,kb2⟩
 refine ⟨rfl,⟨hx.trans' hx2 (fun _ _ e=>.inl (.inl (.inl e))),nv',{ xs' with vd:=.int .i64 0,ml:=.map none },hP.turn _ _ hx2 kb2,hF⟩,?_⟩
 have c1:=cob hP.p.ts.blk 5
 have c2:=cob kb2 5
 refine (FT.ext hf hx2 (fun q _ hd e=>by have:=hd.1;omega)).mono (fun q _ hd=>⟨hd.1,fun v hv=>?_⟩)
 refine hd.2 v ?_
 rw [c1]
 rw [c2] at hv
 exact hv
theorem asrt_done {W w0 w3 W':World} {xs3:PX} {T' A':List Nd} {g cap':Nat} {cs:List Value} {nd:Nd} (h:PSS W sb N nv xs3 T' A' Y K) (hf:Y.length < 20) (h0:Ext (fun _=>False) W w0) (hgrow:w0.grownBy w3 xs3.fs.ownBlock) (hat:xs3.fs.ownBlock=some g\/W.heap.size<=g) (hx:Ext (fun k=>k=g\/k=sb) w3 W') (hown:W'.ownsRow 0 112 4 (.slice (some ⟨g,0,none⟩) (Y.length+1) cap') (Y.length+1) (Y.flatten++cs)) (hc4:cs.length=4) (kb:W'.heap[sb]?=some (.cells #[nv,xs3.ts,xs3.tm,xs3.at_,xs3.am,.slice (some ⟨g,0,none⟩) (Y.length+1) cap',xs3.ks,xs3.vd,xs3.ml] 98)) (hft:FT W (fun q=>w.heap.size<=q) A' cs nd) (hfs:∀ k,xs3.fs.ownBlock=some k->k < w.heap.size) (hsb:sb < w.heap.size) :
  TookF w sb A' cs nd W'/\∃ xs4,PSS W' sb N nv xs4 T' A' (Y++[cs]) K/\Goes W sb nv xs3 nv xs4 W':=by
 have hE:Ext (fun k=>k=sb\/xs3.fs.ownBlock=some k) W W':=(((h0.mono (fun _ _ f=>f.elim)).grown hgrow (fun k hk _=>Or.inr hk)).trans' hx (fun k hk e=>by
  rcases e with e | e
  ·subst e
   rcases hat with e2 | e2
   ·exact .inr e2
   ·omega
  ·exact .inl e))
 have hy:(Y++[cs]).length=Y.length+1:=by simp
 obtain ⟨h1,h2⟩:=pss_fml (Y':=Y++[cs]) (fv':=.slice (some ⟨g,0,none⟩) (Y.length+1) cap') h kb (by rw [hy,List.flatten_append];simpa using hown) (fun c hc=>by
  rcases List.mem_append.1 hc with e | e
  ·exact h.fown.2 c e
  ·rw [List.mem_singleton.1 e];exact hc4) (by omega) hE (fun k hk=>by
  simp [Value.ownBlock] at hk
  subst hk
  exact hat)
 refine ⟨?_,_,h1,h2⟩
 have c5:=cob kb 5
 refine ((hft.mono (D':=fun q=>w.heap.size<=q/\¬q=g) (fun q hq hd=>⟨hd,fun e=>?_⟩)).ext hE (fun q hq hd e=>?_)).mono (fun q hq hd=>⟨hd.1,fun v hv e=>?_⟩)
 ·subst e
  rcases hat with e2 | e2
  ·have:=hfs q e2;omega
  ·omega
 ·rcases e with e | e
  ·omega
  ·have:=hfs q e;omega
 ·rw [c5] at hv
  obtain rfl:Value.slice (some ⟨g,0,none⟩) (Y.length+1) cap' = v:=by simpa using hv
  simp [Value.ownBlock] at e
  exact hd.2 e.symm
theorem ext_set5a (w:World) (g sb a b c d:Nat) (ua ub uc ud u:Value):Ext (fun k=>k=g\/k=sb) w (((((w.setCell ⟨g,a,none⟩ ua).setCell ⟨g,b,none⟩ ub).setCell ⟨g,c,none⟩ uc).setCell ⟨g,d,none⟩ ud).setCell ⟨sb,5,none⟩ u) :=
 ((ext_set4 w g a b c d ua ub uc ud).mono (fun _ _ e=>Or.inl e)).trans' ((Ext.refl (fun k=>k=sb) _).setCell (p:=⟨sb,5,none⟩) (fun _=>rfl) u) (fun _ _ e=>Or.inr e)
theorem ext_set5b (w:World) (g sb a b c d:Nat) (ua ub uc ud u:Value):Ext (fun k=>k=g\/k=sb) w (((((w.setCell ⟨sb,5,none⟩ u).setCell ⟨g,a,none⟩ ua).setCell ⟨g,b,none⟩ ub).setCell ⟨g,c,none⟩ uc).setCell ⟨g,d,none⟩ ud) :=
 (((Ext.refl (fun k=>k=sb) w).setCell (p:=⟨sb,5,none⟩) (fun _=>rfl) u).mono (fun _ _ e=>Or.inr e)).trans' (ext_set4 _ g a b c d ua ub uc ud) (fun _ _ e=>Or.inl e)
section
variable {W w0 w3:World} {xs3:PX} {T' A':List Nd} {g cap':Nat} {z0 z1 z2 z3 fs0:Value} {nd:Nd}
theorem asrt_finA (ua ub uc ud:Value) (hP:PSS W sb N nv xs3 T' A' Y K) (hG:Goes w sb nv xs nv xs3 W) (hf:Y.length < 20) (h0:Ext (fun _=>False) W w0) (hgr:w0.grownBy w3 xs3.fs.ownBlock) (hat:xs3.fs.ownBlock=some g\/W.heap.size<=g) (hown:w3.ownsRow 0 112 4 (.slice (some ⟨g,0,none⟩) (Y.length+1) cap') (Y.length+1) (Y.flatten++[z0,z1,z2,z3])) (hgs:¬sb=g) (kb3:w3.heap[sb]?=some (.cells #[nv,xs3.ts,xs3.tm,xs3.at_,xs3.am,fs0,xs3.ks,xs3.vd,xs3.ml] 98)) (hft:FT W (fun q=>w.heap.size<=q) A' [ua,ub,uc,ud] nd) (hfs:∀ k,xs3.fs.ownBlock=some k->k < w.heap.size) (hsb:sb < w.heap.size) :
  SPost w sb nv xs N T' A' (Y++[[ua,ub,uc,ud]]) K (((((w3.setCell ⟨g,Y.length * 4,none⟩ ua).setCell ⟨g,Y.length * 4+1,none⟩ ub).setCell ⟨g,Y.length * 4+2,none⟩ uc).setCell ⟨g,Y.length * 4+3,none⟩ ud).setCell ⟨sb,5,none⟩ (.slice (some ⟨g,0,none⟩) (Y.length+1) cap'))/\TookF w sb A' [ua,ub,uc,ud] nd (((((w3.setCell ⟨g,Y.length * 4,none⟩ ua).setCell ⟨g,Y.length * 4+1,none⟩ ub).setCell ⟨g,Y.length * 4+2,none⟩ uc).setCell ⟨g,Y.length * 4+3,none⟩ ud).setCell ⟨sb,5,none⟩ (.slice (some ⟨g,0,none⟩) (Y.length+1) cap')):=by
 obtain ⟨h4,xs4,h5,h6⟩:=asrt_done hP hf h0 hgr hat (ext_set5a w3 g sb _ _ _ _ ua ub uc ud (.slice (some ⟨g,0,none⟩) (Y.length+1) cap')) (own_ext (own_last4 hown hP.fown.1.1 ua ub uc ud) ((Ext.refl (fun k=>k=sb) _).setCell (p:=⟨sb,5,none⟩) (fun _=>rfl) _) (fun k hk e=>by simp [Value.ownBlock] at hk;omega)) rfl (bsc (((ext_set4 w3 g _ _ _ _ _ _ _ _).block sb (blt kb3) hgs).trans kb3) 5 _) hft hfs hsb
 have hG2:=hG.trans h6
 exact ⟨⟨hG2.1,nv,xs4,h5,hG2.2⟩,h4⟩
theorem asrt_finB (ua ub uc ud:Value) (hP:PSS W sb N nv xs3 T' A' Y K) (hG:Goes w sb nv xs nv xs3 W) (hf:Y.length < 20) (h0:Ext (fun _=>False) W w0) (hgr:w0.grownBy w3 xs3.fs.ownBlock) (hat:xs3.fs.ownBlock=some g\/W.heap.size<=g) (hown:w3.ownsRow 0 112 4 (.slice (some ⟨g,0,none⟩) (Y.length+1) cap') (Y.length+1) (Y.flatten++[z0,z1,z2,z3])) (hgs:¬sb=g) (kb3:w3.heap[sb]?=some (.cells #[nv,xs3.ts,xs3.tm,xs3.at_,xs3.am,fs0,xs3.ks,xs3.vd,xs3.ml] 98)) (hft:FT W (fun q=>w.heap.size<=q) A' [ua,ub,uc,ud] nd) (hfs:∀ k,xs3.fs.ownBlock=some k->k < w.heap.size) (hsb:sb < w.heap.size) :
  SPost w sb nv xs N T' A' (Y++[[ua,ub,uc,ud]]) K (((((w3.setCell ⟨sb,5,none⟩ (.slice (some ⟨g,0,none⟩) (Y.length+1) cap')).setCell ⟨g,Y.length * 4,none⟩ ua).setCell ⟨g,Y.length * 4+1,none⟩ ub).setCell ⟨g,Y.length * 4+2,none⟩ uc).setCell ⟨g,Y.length * 4+3,none⟩ ud)/\TookF w sb A' [ua,ub,uc,ud] nd (((((w3.setCell ⟨sb,5,none⟩ (.slice (some ⟨g,0,none⟩) (Y.length+1) cap')).setCell ⟨g,Y.length * 4,none⟩ ua).setCell ⟨g,Y.length * 4+1,none⟩ ub).setCell ⟨g,Y.length * 4+2,none⟩ uc).setCell ⟨g,Y.length * 4+3,none⟩ ud):=by
 obtain ⟨h4,xs4,h5,h6⟩:=asrt_done hP hf h0 hgr hat (ext_set5b w3 g sb _ _ _ _ ua ub uc ud (.slice (some ⟨g,0,none⟩) (Y.length+1) cap')) (own_last4 (own_ext hown ((Ext.refl (fun k=>k=sb) _).setCell (p:=⟨sb,5,none⟩) (fun _=>rfl) _) (fun k hk e=>by simp [Value.ownBlock] at hk;omega)) hP.fown.1.1 ua ub uc ud) rfl (((ext_set4 _ g _ _ _ _ _ _ _ _).block sb (by simpa using blt kb3) hgs).trans (bsc kb3 5 _)) hft hfs hsb
 have hG2:=hG.trans h6
 exact ⟨⟨hG2.1,nv,xs4,h5,hG2.2⟩,h4⟩
end
end
section
variable {w:World} {sb:Nat} {N:List Nm} {nv:Value} {xs:PX} {T A:List Nd} {Y:List (List Value)} {K:List Fr4}
set_option maxRecDepth 100000 in
set_option maxHeartbeats 16000000 in
theorem pa_take (s:ByteArray) {nd:Nd} {us:List Tk} (h:PSS w sb N nv xs T A Y K) (hs:s.size<=600) (hhd:HdLaid w) (hr:rdWhole N s.toList=.ok nd us) (hf:Y.length < 20) :
    Calls Tryz.prog 25 #[.pointer (some ⟨sb,0,none⟩),.string s] w fun e w'=>∃ T' A',AddsP T T' (subs true nd)/\AddsP A A' (subs false nd)/\e=.returned (.tuple #[.int .i64 0,.int .i64 (tkCode T'.length A'.length)]) /\
      (tkCode T'.length A'.length=0->∃ cs,SPost w sb nv xs N T' A' (Y++[cs]) K w'/\TookF w sb A' cs nd w')/\(¬tkCode T'.length A'.length=0->SPost w sb nv xs N T A Y K w'):=by
  have HC:=hide (p_Formula s w hs h.ps.tab hhd)
  have HOK:=hide (whole_shape h.ok hr)
  have HFL:=hide (whole_ok hs hr).2
  obtain ⟨hfo,_⟩:=h.fown
  obtain ⟨fa,fc,e1⟩:=row_shape hfo
  have htf:=h.tfew
  have haf:=h.afew
  have kb:=h.p.ts.blk
  have c0:=cob kb 0
  have hsb:=blt kb
  have KB:=hide kb
  have H:=hide h
  have HR:=hide hr
  have HLT:=hide h.lt
  clear h hs hhd hr hfo kb
  go_enter Tryz.func25,Tryz.ntmps25
  go_wp2_with fail
  refine HC.out.mono ?_
  rintro en w1 ⟨hx1,hm⟩
  rw [HR.out] at hm
  obtain ⟨k',wd',v',pa',pn',pc',rfl,hpn⟩:=hm
  have kb1:=(hx1.block sb hsb (fun f=>f)).trans KB.out
  rw [e1] at kb1
  have c5:=cob kb1 5
  have hl1:=blt kb1
  have hne:¬sb=w1.heap.size:=by omega
  obtain ⟨V,hV⟩:∃ V,w1.alloc (.cells #[.int .i64 k',.string wd',.int .i64 v',.slice pa' pn' pc'] 115)=V:=⟨_,rfl⟩
  have hxV:Ext (fun _=>False) w V:=by rw [<- hV];exact hx1.alloc _
  have hs1:=hx1.size
  have hVs:V.heap.size=w1.heap.size+1:=by rw [<- hV];simp
  have hPV0:=H.out.ext hxV (fun _ _ f=>f)
  have hpnV0:PN V (fun k=>w.heap.size<=k/\k < w1.heap.size) [.int .i64 k',.string wd',.int .i64 v',.slice pa' pn' pc'] nd:=hpn.within.ext (by rw [<- hV];exact (Ext.refl (fun _=>False) w1).alloc _) (fun _ _ _ f=>f)
  have HC2:Hid (∀ W,Ext (fun _=>False) V W->Calls Tryz.prog 48 #[.pointer (some ⟨sb,1,none⟩),.agg #[.int .i64 k',.string wd',.int .i64 v',.slice pa' pn' pc']] W (TkPost W sb nv xs T A nd)):=fun W hW =>
    ptake_any HOK.out HFL.out (hpnV0.ext hW (fun _ _ _ f=>f)) (fun k hk=>by have:=hW.size;omega) (fun k hk hp=>by have:=HLT.out k (.inl hp);omega) (hPV0.ext hW (fun _ _ f=>f)).p htf haf
  have HPV:=hide hPV0
  have HXV:=hide hxV
  have HV:=hide hV
  have kN:V.heap[w1.heap.size]?=some (.cells #[.int .i64 k',.string wd',.int .i64 v',.slice pa' pn' pc'] 115):=by rw [<- hV];exact heap_alloc_new w1 _
  have m0:=cob kN 0
  have m1:=cob kN 1
  have m2:=cob kN 2
  have m3:=cob kN 3
  clear hx1 hxV hPV0 hpnV0 hV hpn kb1 kN c0
  go_wp2_with fail
  rw [HV.out]
  go_region_law (go_simp;go_wp2_with (go_at_call 48;first | (refine (HC2.out V.drew ((Ext.refl (fun _=>False) V).drew)).mono ?_;rintro e w2 ⟨T2,A2,hT2,hA2,rk,rw',ri,rpa,rpn,rpc,rfl,hft,hap⟩;have HFT:=hide hft;clear hft;have HT2:=hide hT2;have HA2:=hide hA2;have HXB:Hid (Ext (fun _=>False) V V.drew):=(Ext.refl (fun _=>False) V).drew;have HAP:=hide hap;clear hT2 hA2 hap) | (refine (HC2.out (V.alloc (.cells #[.int .i64 0,.string ⟨#[]⟩,.int .i64 0,.slice none 0 0] 112)).drew (((Ext.refl (fun _=>False) V).alloc _).drew)).mono ?_;rintro e w2 ⟨T2,A2,hT2,hA2,rk,rw',ri,rpa,rpn,rpc,rfl,hft,hap⟩;have HFT:=hide hft;clear hft;have HT2:=hide hT2;have HA2:=hide hA2;have kz:w2.heap[w1.heap.size+1]?=some (.cells #[.int .i64 0,.string ⟨#[]⟩,.int .i64 0,.slice none 0 0] 112):=zb_kept HLT.out (by omega) hVs hap;have KZ:=hide kz;have y0:=cob kz 0;have y1:=cob kz 1;have y2:=cob kz 2;have y3:=cob kz 3;have x0:=fob kz 0;have x1:=fob kz 1;have x2:=fob kz 2;have x3:=fob kz 3;have HXB:Hid (Ext (fun _=>False) V (V.alloc (.cells #[.int .i64 0,.string ⟨#[]⟩,.int .i64 0,.slice none 0 0] 112)).drew):=((Ext.refl (fun _=>False) V).alloc _).drew;have HAP:=hide hap;clear hT2 hA2 hap kz)))
  all_goals
    obtain ⟨cd,hcd⟩:∃ cd,tkCode T2.length A2.length=cd:=⟨_,rfl⟩
    have hap:=HAP.out
    rw [hcd] at hap
    rw [hcd]
    have HCD:=hide hcd
    have hTA:(if cd=0 then T2 else T).length<=12/\(if cd=0 then A2 else A).length<=16:=by
      by_cases h0:cd=0
      · rw [if_pos h0,if_pos h0]
        rw [h0] at hcd
        unfold tkCode at hcd
        by_cases h1:12 < T2.length
        · rw [if_pos h1] at hcd;exact absurd hcd (by decide)
        · rw [if_neg h1] at hcd
          by_cases h2:16 < A2.length
          · rw [if_pos h2] at hcd;exact absurd hcd (by decide)
          · omega
      · rw [if_neg h0,if_neg h0]
        exact ⟨htf,haf⟩
    obtain ⟨xs3,hP3,he5,he6,hG3⟩:=pss_pool (HPV.out.ext HXB.out (fun _ _ f=>f)) hap hTA.1 hTA.2
    have hGB:=Goes.of_ext (HXV.out.trans HXB.out) hG3
    have kb2:=hP3.p.ts.blk
    rw [he5,e1] at kb2
    have hl2:=blt kb2
    have hsz2:V.heap.size<=w2.heap.size:=Nat.le_trans HXB.out.size hG3.1.size
    have hne2:¬sb=w2.heap.size:=by omega
    have hne3:¬sb=w1.heap.size+1:=by omega
    have HP3:=hide hP3
    have HGB:=hide hGB
    have HG3:=hide hG3.2
    have KB2:=hide kb2
    clear hap hcd hTA hP3 hG3 hGB kb2
    first
      | (obtain ⟨W,hW⟩:∃ W,(((w2.setCell ⟨w1.heap.size+1,0,none⟩ (.int .i64 rk)).setCell ⟨w1.heap.size+1,1,none⟩ (.string rw')).setCell ⟨w1.heap.size+1,2,none⟩ (.int .i64 ri)).setCell ⟨w1.heap.size+1,3,none⟩ (.slice rpa rpn rpc)=W:=⟨_,rfl⟩
         have HWX:Hid (Ext (fun k=>k=w1.heap.size+1) w2 W):=by rw [<- hW];exact (((((Ext.refl (fun k=>k=w1.heap.size+1) w2).setCell (p:=⟨w1.heap.size+1,0,none⟩) (fun _=>rfl) _).setCell (p:=⟨w1.heap.size+1,1,none⟩) (fun _=>rfl) _).setCell (p:=⟨w1.heap.size+1,2,none⟩) (fun _=>rfl) _).setCell (p:=⟨w1.heap.size+1,3,none⟩) (fun _=>rfl) _)
         have KT:Hid (W.heap[w1.heap.size+1]?=some (.cells #[.int .i64 rk,.string rw',.int .i64 ri,.slice rpa rpn rpc] 112)):=by rw [<- hW];exact bsc (bsc (bsc (bsc KZ.out 0 _) 1 _) 2 _) 3 _
         have HPW:Hid (PSS W sb N nv xs3 (if cd=0 then T2 else T) (if cd=0 then A2 else A) Y K/\Goes w sb nv xs nv xs3 W):=by
           have hno:∀ k,SF sb nv xs3 k->¬k=w1.heap.size+1:=zb_free HLT.out hs1 hVs HG3.out
           exact ⟨HP3.out.ext HWX.out hno,HGB.out.1.trans' HWX.out (fun k hk e=>by omega),HGB.out.2⟩
         have HFW:Hid (cd=0->FT W (fun q=>w.heap.size<=q) A2 [.int .i64 rk,.string rw',.int .i64 ri,.slice rpa rpn rpc] nd):=fun e=>by
           have hsz:(V.alloc (.cells #[.int .i64 0,.string ⟨#[]⟩,.int .i64 0,.slice none 0 0] 112)).drew.heap.size=V.heap.size+1:=by show (V.alloc _).heap.size=_;simp
           exact ((HFT.out (HCD.out.trans e)).ext HWX.out (fun q _ hd e=>by omega)).mono (fun q _ hd=>by omega)
         rw [hW]
         clear hW)
      | (obtain ⟨W,hW⟩:∃ W,w2.alloc (.cells #[.int .i64 rk,.string rw',.int .i64 ri,.slice rpa rpn rpc] 112)=W:=⟨_,rfl⟩
         have HWX:Hid (Ext (fun _=>False) w2 W):=by rw [<- hW];exact (Ext.refl _ w2).alloc _
         have KT:Hid (W.heap[w2.heap.size]?=some (.cells #[.int .i64 rk,.string rw',.int .i64 ri,.slice rpa rpn rpc] 112)):=by rw [<- hW];exact heap_alloc_new w2 _
         have HPW:Hid (PSS W sb N nv xs3 (if cd=0 then T2 else T) (if cd=0 then A2 else A) Y K/\Goes w sb nv xs nv xs3 W):=⟨HP3.out.ext HWX.out (fun _ _ f=>f),HGB.out.ext HWX.out⟩
         have HFW:Hid (cd=0->FT W (fun q=>w.heap.size<=q) A2 [.int .i64 rk,.string rw',.int .i64 ri,.slice rpa rpn rpc] nd):=fun e=>by
           have hsz:V.heap.size<=V.drew.heap.size:=Nat.le_refl _
           exact ((HFT.out (HCD.out.trans e)).ext HWX.out (fun _ _ _ f=>f)).mono (fun q _ hd=>by omega)
         rw [hW]
         clear hW)
    by_cases hc0:cd=0
    · subst hc0
      have hpw:=HPW.out
      rw [if_pos rfl,if_pos rfl] at hpw
      have HPW2:=hide hpw
      have kbW:=hpw.1.p.ts.blk
      obtain ⟨hfoW,_⟩:=hpw.1.fown
      have hzl:=hfoW.1
      rw [he5,e1] at kbW hfoW
      have w5:=cob kbW 5
      have hlW:=blt kbW
      have hneW:¬sb=W.heap.size:=by omega
      have t0:=cob KT.out 0
      have t1:=cob KT.out 1
      have t2:=cob KT.out 2
      have t3:=cob KT.out 3
      have hlT:=blt KT.out
      have KBW:=hide kbW
      have HFO:=hide hfoW
      have HSB:Hid (∀ k,(Value.slice fa Y.length fc).ownBlock=some k->¬k=sb):=fun k hk e=>(hpw.1.f1 k (by rw [he5,e1];exact hk)).1 (.inl (.inl e))
      have HFB:Hid (∀ k,(Value.slice fa Y.length fc).ownBlock=some k->k < w.heap.size):=fun k hk=>HLT.out k (.inr (.inr (.inl (by rw [e1];exact hk))))
      obtain ⟨i0,hi,hz0,hz1,hz2⟩:=info_parts infoFml
      have hlt1:(Y.length:Int) < (Y.length:Int)+1:=by omega
      clear hpw kbW hfoW
      go_wp2_with fail
      go_region_law ((refine step_append_lies _ (by rfl) _ _ _ (by rfl) 0 112 i0 _ 4 56 Tryz.underlying89 hi hz0 hz1 hz2 rfl (by omega) (.slice fa Y.length fc) Y.length Y.flatten (by rfl) ((HFO.out.alloc _).drew) ⟨W.heap.size,0,none⟩ 1 1 [.int .i64 0,.string ⟨#[]⟩,.int .i64 0,.slice none 0 0] (by rfl) (by rfl) (World.news_of_block (cs:=#[.int .i64 0,.string ⟨#[]⟩,.int .i64 0,.slice none 0 0]) (t:=112) (fr:=(0,0)) (heap_alloc_new W _)) (by simp [Value.oneCell']) (by omega) (by unfold maxLen;omega) (by omega) (Nat.zero_le _) (W.heap.size+1) (by simp) ?_;intro g cap' w3 hown3 hgrow hat hlt3;have kb3:w3.heap[sb]?=some (.cells #[nv,xs3.ts,xs3.tm,xs3.at_,xs3.am,.slice fa Y.length fc,xs3.ks,xs3.vd,xs3.ml] 98):=(hgrow.block sb (by simp;omega) (fun e=>HSB.out sb e.symm rfl)).trans ((Below.heap_alloc W _ sb hlW).trans KBW.out);have d5:=cob kb3 5;have d5f:=fob kb3 5;have kt3:=(hgrow.block _ (by simp;omega) (fun e=>by have:=HFB.out _ e.symm;omega)).trans ((Below.heap_alloc W _ _ hlT).trans KT.out);have q0:=cob kt3 0;have q1:=cob kt3 1;have q2:=cob kt3 2;have q3:=cob kt3 3;obtain ⟨u0,u1,u2,u3⟩:=row_at hown3 (by omega);have hrc:=row_cell hown3;have p0:=(hrc (Y.length * 4) (by omega)).2;have p1:=(hrc (Y.length * 4+1) (by omega)).2;have p2:=(hrc (Y.length * 4+2) (by omega)).2;have p3:=(hrc (Y.length * 4+3) (by omega)).2;have hgs:¬g=sb:=fun e=>hat.elim (fun e2=>HSB.out g e2 e) (fun e2=>(by omega));have hgs2:¬sb=g:=fun e=>hgs e.symm;clear hrc kt3))
      all_goals
        go_wp2_with fail
        have hgr:(W.alloc (.cells #[.int .i64 0,.string ⟨#[]⟩,.int .i64 0,.slice none 0 0] 112)).drew.grownBy w3 xs3.fs.ownBlock:=by rw [he5,e1];exact hgrow
        have hat2:xs3.fs.ownBlock=some g\/W.heap.size<=g:=by rw [he5,e1];exact hat.imp id (fun e=>by omega)
        have h0x:Ext (fun _=>False) W (W.alloc (.cells #[.int .i64 0,.string ⟨#[]⟩,.int .i64 0,.slice none 0 0] 112)).drew:=((Ext.refl _ W).alloc _).drew
        have hpp:=HPW2.out.1
        have hgg:=HPW2.out.2
        have hff:=HFW.out (by simp)
        have hfs:∀ k,xs3.fs.ownBlock=some k->k < w.heap.size:=by rw [he5,e1];exact HFB.out
        have hfA:=asrt_finA (.int .i64 rk) (.string rw') (.int .i64 ri) (.slice rpa rpn rpc) hpp hgg hf h0x hgr hat2 hown3 hgs2 kb3 hff hfs hsb
        have hfB:=asrt_finB (.int .i64 rk) (.string rw') (.int .i64 ri) (.slice rpa rpn rpc) hpp hgg hf h0x hgr hat2 hown3 hgs2 kb3 hff hfs hsb
        first
          | with_reducible refine (spost_forgetF hfA.1 hfA.2 hsb).mono ?_
          | with_reducible refine (spost_forgetF hfB.1 hfB.2 hsb).mono ?_
        rintro e w9 ⟨rfl,h9⟩
        have H9:=hide h9
        clear h9 hgr hat2 h0x hpp hgg hff hfs hfA hfB
        go_wp2_with fail
        go_ret2
        exact ⟨T2,A2,HT2.out,HA2.out,by rw [HCD.out];rfl,fun _=>⟨_,H9.out⟩,fun e=>absurd HCD.out e⟩
    · have hc0':(cd == 0)=false:=by simpa using hc0
      go_wp2_with fail
      go_ret2
      have hpw:=HPW.out
      rw [if_neg hc0,if_neg hc0] at hpw
      exact ⟨T2,A2,HT2.out,HA2.out,by rw [HCD.out];rfl,fun e=>absurd (HCD.out.symm.trans e) hc0,fun _=>⟨hpw.2.1,nv,xs3,hpw.1,hpw.2.2⟩⟩
end
end Go.Proofs.YtegbdaffhpiacaaGreatDoor

namespace Go.Proofs.YtegbdaffhpiacaaGreatDoor
open Ar
structure Once (t:Bool) (T:List Nd) (L:List (Nd × Int)):Prop where
 nd:T.Nodup
 mem:∀ x,x∈T↔∃ p∈L,x∈subs t p.1
structure Fit (N:List Nm) (L:List (Nd × Int)) (T A:List Nd) (F:Int) (k:Fr4):Prop where
 n:k.n<=N.length
 f:k.f<=L.length
 t:k.t<=T.length
 a:k.a<=A.length
 ns:N.take k.n=N.filter (fun x=>decide (x.fr < F))
 fs:L.take k.f=L.filter (fun x=>decide (x.2 < F))
 ts:Once true (T.take k.t) (L.take k.f)
 aw:Once false (A.take k.a) (L.take k.f)
def Fr4.le (j k:Fr4):Prop:=j.n<=k.n/\j.t<=k.t/\j.a<=k.a/\j.f<=k.f
structure Stk (N:List Nm) (L:List (Nd × Int)) (T A:List Nd) (K:List Fr4):Prop where
 ts:Once true T L
 aw:Once false A L
 ok:∀ p∈L,FmOk p.1
 nfr:∀ x∈N,x.fr<=K.length
 lfr:∀ p∈L,p.2<=K.length
 fit:∀ (j:Nat) (k:Fr4),K[j]?=some k->Fit N L T A ((j:Int)+1) k
 up:K.Pairwise Fr4.le
theorem Once.nil (t:Bool):Once t [] []:=⟨List.nodup_nil,fun x=>by simp⟩
theorem stk_new:Stk [] [] [] [] []:=⟨Once.nil _,Once.nil _,by simp,by simp,by simp,by simp,List.Pairwise.nil⟩
theorem filter_snoc_no {α:Type} {p : α->Bool} {l:List α} {x : α} (h:p x=false):(l++[x]).filter p=l.filter p:=by simp [h]
theorem take_snoc {α:Type} {l m:List α} {n:Nat} (h:n<=l.length):(l++m).take n=l.take n:=by
 rw [List.take_append_of_le_length h]
theorem lt_get {α:Type} {l:List α} {i:Nat} {x : α} (h:l[i]?=some x):i < l.length:=(List.getElem?_eq_some_iff.1 h).1
theorem Stk.name {N:List Nm} {L:List (Nd × Int)} {T A:List Nd} {K:List Fr4} (h:Stk N L T A K) (s:ByteArray) (a:Int):Stk (N++[⟨s,a,K.length⟩]) L T A K where
 ts:=h.ts
 aw:=h.aw
 ok:=h.ok
 nfr:=by
  intro x hx
  rcases List.mem_append.1 hx with hx | hx
  ·exact h.nfr x hx
  ·simp at hx;subst hx;exact Int.le_refl _
 lfr:=h.lfr
 fit:=by
  intro j k hk
  have hf:=h.fit j k hk
  have hj:=lt_get hk
  exact ⟨by have:=hf.n;simp;omega,hf.f,hf.t,hf.a,by rw [take_snoc hf.n,filter_snoc_no (by simp;omega)];exact hf.ns,hf.fs,hf.ts,hf.aw⟩
 up:=h.up
theorem Stk.decl {N:List Nm} {L:List (Nd × Int)} {T A:List Nd} {K:List Fr4} (h:Stk N L T A K) (s:ByteArray) (a:Int):Stk (declNames N K.length s a) L T A K:=by
 unfold declNames
 by_cases e:declCode N s.toList a=0
 ·rw [if_pos e];exact h.name s a
 ·rw [if_neg e];exact h
theorem filter_all {α:Type} {p : α->Bool} {l:List α} (h:∀ x∈l,p x=true):l.filter p=l:=List.filter_eq_self.2 h
theorem Stk.push {N:List Nm} {L:List (Nd × Int)} {T A:List Nd} {K:List Fr4} (h:Stk N L T A K):Stk N L T A (K++[⟨N.length,T.length,A.length,L.length⟩]) where
 ts:=h.ts
 aw:=h.aw
 ok:=h.ok
 nfr:=fun x hx=>by have:=h.nfr x hx;simp;omega
 lfr:=fun x hx=>by have:=h.lfr x hx;simp;omega
 fit:=by
  intro j k hk
  by_cases hj:j < K.length
  ·rw [List.getElem?_append_left hj] at hk
   exact h.fit j k hk
  ·have hl:=lt_get hk
   simp at hl
   have e:j=K.length:=by omega
   subst e
   simp at hk
   subst hk
   refine ⟨Nat.le_refl _,Nat.le_refl _,Nat.le_refl _,Nat.le_refl _,?_,?_,?_,?_⟩
   ·rw [List.take_length,filter_all (fun x hx=>by have:=h.nfr x hx;simp;omega)]
   ·rw [List.take_length,filter_all (fun x hx=>by have:=h.lfr x hx;simp;omega)]
   ·simp only [List.take_length];exact h.ts
   ·simp only [List.take_length];exact h.aw
 up:=by
  rw [List.pairwise_append]
  refine ⟨h.up,List.pairwise_singleton _ _,fun a ha b hb=>?_⟩
  simp at hb
  subst hb
  obtain ⟨j,hj,e⟩:=List.getElem_of_mem ha
  have hf:=h.fit j a (by rw [<- e];exact List.getElem?_eq_getElem hj)
  exact ⟨hf.n,hf.t,hf.a,hf.f⟩
theorem Stk.pop {N:List Nm} {L:List (Nd × Int)} {T A:List Nd} {K:List Fr4} {k:Fr4} (h:Stk N L T A (K++[k])):Stk (N.take k.n) (L.take k.f) (T.take k.t) (A.take k.a) K/\N.take k.n=N.filter (fun x=>decide (x.fr < (K.length:Int)+1))/\L.take k.f=L.filter (fun x=>decide (x.2 < (K.length:Int)+1)):=by
 have hl:=h.fit K.length k (by simp)
 refine ⟨⟨hl.ts,hl.aw,fun p hp=>h.ok p (List.mem_of_mem_take hp),fun x hx=>?_,fun x hx=>?_,fun j q hq=>?_,(List.pairwise_append.1 h.up).1⟩,hl.ns,hl.fs⟩
 ·rw [hl.ns,List.mem_filter] at hx
  have:=hx.2
  simp at this
  omega
 ·rw [hl.fs,List.mem_filter] at hx
  have:=hx.2
  simp at this
  omega
 ·have hj:=lt_get hq
  have hf:=h.fit j q (by rw [List.getElem?_append_left hj];exact hq)
  have hle:Fr4.le q k:=(List.pairwise_append.1 h.up).2.2 q (List.mem_of_getElem? hq) k (by simp)
  obtain ⟨l1,l2,l3,l4⟩:=hle
  have en:(N.take k.n).take q.n=N.take q.n:=by rw [List.take_take,Nat.min_eq_left l1]
  have ef:(L.take k.f).take q.f=L.take q.f:=by rw [List.take_take,Nat.min_eq_left l4]
  have et:(T.take k.t).take q.t=T.take q.t:=by rw [List.take_take,Nat.min_eq_left l2]
  have ea:(A.take k.a).take q.a=A.take q.a:=by rw [List.take_take,Nat.min_eq_left l3]
  refine ⟨?_,?_,?_,?_,?_,?_,?_,?_⟩
  ·rw [List.length_take];have:=hl.n;omega
  ·rw [List.length_take];have:=hl.f;omega
  ·rw [List.length_take];have:=hl.t;omega
  ·rw [List.length_take];have:=hl.a;omega
  ·rw [en,hf.ns,hl.ns,List.filter_filter]
   refine List.filter_congr (fun x _=>?_)
   by_cases hx:x.fr < (j:Int)+1
   ·have:x.fr < (K.length:Int)+1:=by omega
    simp [hx,this]
   ·simp [hx]
  ·rw [ef,hf.fs,hl.fs,List.filter_filter]
   refine List.filter_congr (fun x _=>?_)
   by_cases hx:x.2 < (j:Int)+1
   ·have:x.2 < (K.length:Int)+1:=by omega
    simp [hx,this]
   ·simp [hx]
  ·rw [et,ef];exact hf.ts
  ·rw [ea,ef];exact hf.aw
theorem Once.snoc {t:Bool} {T T':List Nd} {L:List (Nd × Int)} {nd:Nd} {F:Int} (h:Once t T L) (hn:T'.Nodup) (ha:AddsP T T' (subs t nd)):Once t T' (L++[(nd,F)]):=by
 refine ⟨hn,fun x=>?_⟩
 rw [ha.mem,h.mem]
 constructor
 ·rintro (⟨p,hp,hx⟩ | hx)
  ·exact ⟨p,by simp [hp],hx⟩
  ·exact ⟨(nd,F),by simp,hx⟩
 ·rintro ⟨p,hp,hx⟩
  rcases List.mem_append.1 hp with hp | hp
  ·exact .inl ⟨p,hp,hx⟩
  ·simp at hp;subst hp;exact .inr hx
theorem take_pre {α:Type} {l m:List α} {n:Nat} (h:l <+: m) (hn:n<=l.length):m.take n=l.take n:=by
 obtain ⟨r,rfl⟩:=h
 exact take_snoc hn
theorem Stk.take {N:List Nm} {L:List (Nd × Int)} {T A T' A':List Nd} {K:List Fr4} {nd:Nd} (h:Stk N L T A K) (hok:FmOk nd) (hT:AddsP T T' (subs true nd)) (hA:AddsP A A' (subs false nd)) (hTn:T'.Nodup) (hAn:A'.Nodup):Stk N (L++[(nd,(K.length:Int))]) T' A' K where
 ts:=h.ts.snoc hTn hT
 aw:=h.aw.snoc hAn hA
 ok:=by
  intro p hp
  rcases List.mem_append.1 hp with hp | hp
  ·exact h.ok p hp
  ·simp at hp;subst hp;exact hok
 nfr:=h.nfr
 lfr:=by
  intro p hp
  rcases List.mem_append.1 hp with hp | hp
  ·exact h.lfr p hp
  ·simp at hp;subst hp;exact Int.le_refl _
 fit:=by
  intro j k hk
  have hf:=h.fit j k hk
  have hj:=lt_get hk
  have e1:(L++[(nd,(K.length:Int))]).take k.f=L.take k.f:=take_snoc hf.f
  refine ⟨hf.n,by have:=hf.f;simp;omega,Nat.le_trans hf.t hT.pre.length_le,Nat.le_trans hf.a hA.pre.length_le,hf.ns,?_,?_,?_⟩
  ·rw [e1,filter_snoc_no (by simp;omega)];exact hf.fs
  ·rw [e1,take_pre hT.pre hf.t];exact hf.ts
  ·rw [e1,take_pre hA.pre hf.a];exact hf.aw
 up:=h.up
theorem once_count {t:Bool} {T T':List Nd} {L:List (Nd × Int)} {nd:Nd} (h:Once t T L) (hok:∀ p∈L,FmOk p.1) (hnd:FmOk nd) (hn:T'.Nodup) (ha:AddsP T T' (subs t nd)):cnt t (L.map Prod.fst) nd=T'.length:=by
 unfold cnt
 have hm:∀ x,x∈T'↔x∈subsAll t (L.map Prod.fst++[nd]):=by
  intro x
  rw [(h.snoc (F:=0) hn ha).mem,mem_subsAll]
  constructor
  ·rintro ⟨p,hp,hx⟩
   rcases List.mem_append.1 hp with hp | hp
   ·exact ⟨p.1,by simp;exact .inl ⟨p.2,hp⟩,hx⟩
   ·simp at hp;subst hp;exact ⟨nd,by simp,hx⟩
  ·rintro ⟨q,hq,hx⟩
   rcases List.mem_append.1 hq with hq | hq
   ·obtain ⟨p,hp,rfl⟩:=List.mem_map.1 hq
    exact ⟨p,by simp [hp],hx⟩
   ·simp at hq;subst hq;exact ⟨(q,0),by simp,hx⟩
 have hall:∀ q∈L.map Prod.fst++[nd],FmOk q:=by
  intro q hq
  rcases List.mem_append.1 hq with hq | hq
  ·obtain ⟨p,hp,rfl⟩:=List.mem_map.1 hq
   exact hok p hp
  ·simp at hq;subst hq;exact hnd
 refine count_eq hn hm (fun x hx y hy e=>?_)
 obtain ⟨p,hp,hx⟩:=mem_subsAll.1 hx
 obtain ⟨q,hq,hy⟩:=mem_subsAll.1 hy
 have fp:=form_subs (hall p hp)
 have fq:=form_subs (hall q hq)
 cases t with
 | true=>exact term_form (fp.1 x hx) (fq.1 y hy) e
 | false=>exact atom_form (fp.2 x hx) (fq.2 y hy) e
end Go.Proofs.YtegbdaffhpiacaaGreatDoor
