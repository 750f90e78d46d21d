/- A part of the proof. -/
import Derived.Test.YtegbdaffhpiacaaGreatDoorMod18
set_option maxRecDepth 100000
set_option maxHeartbeats 1000000
namespace Go.Proofs.YtegbdaffhpiacaaGreatDoor
open Go.Proofs.Tryz hiding parts
open Go.RowKit Go.Maps Ar
theorem qG0{Y:List (List Value)}(h:∀ cs∈Y,cs.length=4):∀ {m:Nat},(Y.take m).flatten=Y.flatten.take (m*4):=by
 induction Y with
 | nil=>intro m;simp
 | cons a Y ih=>
  intro m;have ha:=h a (by simp);cases m with
  | zero=>simp
  | succ m=>
   rw[List.take_succ_cons,List.flatten_cons,List.flatten_cons,ih (fun cs hc=>h cs (by simp[hc])),List.take_append,List.take_of_length_le (i:=(m+1)*4) (by omega),ha]
   congr 2
   omega
theorem jc2{w:World}{ks:Value}{K:List Fr4}{fr:Fr4}(h:w.ownsRow 0 106 4 ks (K++[fr]).length (y9 (K++[fr]))):∃ g kc,ks=.slice (some ⟨g,0,none⟩) (K.length+1) kc/\K.length+1<=kc/\kc<=9223372036854775807/\g<w.heap.size/\w.cell? ⟨g,K.length*4,none⟩=some (.int .i64 fr.n)/\w.cell? ⟨g,K.length*4+1,none⟩=some (.int .i64 fr.t)/\w.cell? ⟨g,K.length*4+2,none⟩=some (.int .i64 fr.a)/\w.cell? ⟨g,K.length*4+3,none⟩=some (.int .i64 fr.f):=by
 have hl:(K++[fr]).length=K.length+1:=by simp
 rcases h.2 with⟨e,e0⟩|⟨g,cap,cur,hv,_,hh,h1,h2,_⟩
 ·rw[hl] at e0;omega
 ·have h3:=h;rw[hv] at h3;have hc:∀ q,q<4->w.cell? ⟨g,K.length*4+q,none⟩=[Value.int .i64 fr.n,.int .i64 fr.t,.int .i64 fr.a,.int .i64 fr.f][q]?:=by
   intro q hq;rw[h3.cellAt _ (by rw[hl];omega),zA3,List.getElem?_append_right (by rw[zl3];omega),zl3,show K.length*4+q-K.length*4=q by omega]
  rw[hl] at hv h1;exact⟨g,cap,hv,h1,by unfold maxLen at h2;exact h2,z8 hh,hc 0 (by decide),hc 1 (by decide),hc 2 (by decide),hc 3 (by decide)⟩
theorem js5{w:World}{sb:Nat}{N:List Nm}{nv:Value}{xs:PX}{T A:List Nd}{Y:List (List Value)}{K:List Fr4}{fr:Fr4}(h:PSS w sb N nv xs T A Y (K++[fr]))(hn:fr.n<=N.length)(ht:fr.t<=T.length)(ha:fr.a<=A.length)(hf:fr.f<=Y.length)(hac:AC (T.take fr.t) (A.take fr.a)):
  Calls prog 19 #[.pointer (some ⟨sb,0,none⟩)] w fun e w'=>e=.returned (.int .i64 0)/\ze4 w sb nv xs (N.take fr.n) (T.take fr.t) (A.take fr.a) (Y.take fr.f) K w':=by
 obtain⟨g,kc,hks,hkc,hkc2,hgl,z0,z1,z2,z3⟩:=jc2 h.kown;have hgs:¬g=sb:=fun e=>h.k1 g (by rw[hks];rfl) (.inl (.inl e))
 obtain⟨ts,tm,at_,am,fs,ks,vd,ml⟩:=xs;simp only at hks;subst hks;have hkl:(K++[fr]).length=K.length+1:=by simp
 have kb:=h.p.ts.blk;have c6:=z6 kb 6;have f6:=Q8 kb 6;have hsb:=z8 kb;have hk20:=h.kfew;rw[hkl] at hk20;have hnf:=h.few;have htf:=h.tfew;have haf:=h.afew;have hff:=h.ffew;have H:=q8 h;have KB:=q8 kb;have HAC:=q8 hac;clear h kb hac hkl;go_enter func19,ntmps19;go_wp2_with fail;obtain⟨V,hV⟩:∃ V,(w.setCell ⟨sb,6,none⟩ (.slice (some ⟨g,0,none⟩) K.length kc)).alloc (.cells #[.int .i64 fr.n,.int .i64 fr.t,.int .i64 fr.a,.int .i64 fr.f] 106)=V:=⟨_,rfl⟩;have hUE:q9 (fun k=>k=sb) w (w.setCell ⟨sb,6,none⟩ (.slice (some ⟨g,0,none⟩) K.length kc)):=(q9.refl (fun k=>k=sb) w).setCell (p:=⟨sb,6,none⟩) (fun _=>rfl) _;obtain⟨hU1,hU2⟩:=qr0 (m:=K.length) H.out (ka:=some ⟨g,0,none⟩) (kc:=kc) (by simp) (by simp) hUE (Y4 KB.out 6 _);rw[List.take_append_of_le_length (Nat.le_refl _),List.take_of_length_le (Nat.le_refl _)] at hU1;have hxV:q9 (fun _=>False) (w.setCell ⟨sb,6,none⟩ (.slice (some ⟨g,0,none⟩) K.length kc)) V:=by rw[<- hV];exact(q9.refl _ _).alloc _
 have hP0:=hU1.ext hxV (fun _ _ f=>f);have hP1:=hP0.ext ((q9.refl (fun _=>False) V).drew) (fun _ _ f=>f);have HG1:=q8 ((hU2.ext hxV).ext ((q9.refl (fun _=>False) V).drew));have kF:V.heap[w.heap.size]?=some (.cells #[.int .i64 fr.n,.int .i64 fr.t,.int .i64 fr.a,.int .i64 fr.f] 106):=by rw[<- hV];have e:=heap_alloc_new (w.setCell ⟨sb,6,none⟩ (.slice (some ⟨g,0,none⟩) K.length kc)) (.cells #[.int .i64 fr.n,.int .i64 fr.t,.int .i64 fr.a,.int .i64 fr.f] 106);simpa using e
 have HLTW:Hid (∀ k,SF sb nv ⟨ts,tm,at_,am,fs,.slice (some ⟨g,0,none⟩) K.length kc,vd,ml⟩ k->k<w.heap.size):=fun k hk=>by have:=hU1.lt k hk;simpa using this
 have HC1:=q8 (qR0 (n:=fr.n) hP1.p.ts.blk hP1.nown hP1.sb_n hP1.few hn);have HP1:=q8 hP1;have KF:=q8 kF;have v0:=z6 kF 0;have hFl:=z8 kF;rw[hV];clear hV hUE hU1 hU2 hxV hP0 hP1 kF c6 f6 z0 z1 z2 z3
 go_region_law (go_simp;go_wp2_with (go_at_call 43;refine HC1.out.mono ?_;rintro e w1 ⟨rfl,nv1,q1,q2,q3,q4⟩;have Q1:=q8 q1;have Q2:=q8 q2;have Q3:=q8 q3;have Q4:=q8 q4;clear q1 q2 q3 q4))
 all_goals
  obtain⟨hP2,hG2⟩:=qF9 HP1.out Q1.out Q2.out (by rw[List.length_take];omega) (fun x hx=>HP1.out.ok x (List.mem_of_mem_take hx)) Q3.out (fun k hk=>.inl (Q4.out▸hk));have kF1:w1.heap[w.heap.size]?=some (.cells #[.int .i64 fr.n,.int .i64 fr.t,.int .i64 fr.a,.int .i64 fr.f] 106):=(hG2.1.block _ hFl (fun e=>by have:=HLTW.out _ e;omega)).trans KF.out;have v1:=z6 kF1 1;have v2:=z6 kF1 2;have hFl1:=z8 kF1;have hP2d:=hP2.ext ((q9.refl (fun _=>False) w1).drew) (fun _ _ f=>f);have HG2:=q8 ((HG1.out.trans hG2).ext ((q9.refl (fun _=>False) w1).drew));have HP2:=q8 hP2d;have HC2:=q8 (qh2 (n:=fr.t) (m:=fr.a) hP2d.p ht ha (by omega) (by omega) HAC.out);have KF1:=q8 kF1;have hSF:∀ k,SF sb nv1 ⟨ts,tm,at_,am,fs,.slice (some ⟨g,0,none⟩) K.length kc,vd,ml⟩ k->¬k=w.heap.size:=by
   rintro k (e|e|e|e) rfl
   ·have:=HLTW.out _ (.inl e);omega
   ·have:=HLTW.out _ (.inr (.inl (Q4.out▸e)));omega
   ·have:=HLTW.out _ (.inr (.inr (.inl e)));omega
   ·have:=HLTW.out _ (.inr (.inr (.inr e)));omega
  have HSF:=q8 hSF;clear hP2 hG2 kF1 hP2d hSF v0;go_wp2_with fail
  go_region_law (go_simp;go_wp2_with (go_at_call 44;refine HC2.out.mono ?_;rintro e w2 ⟨rfl,hap⟩;have HAP:=q8 hap;clear hap))
  all_goals
   obtain⟨xs3,hP3,he5,he6,hG3⟩:=qh5 HP2.out HAP.out (by rw[List.length_take];omega) (by rw[List.length_take];omega);have kF2:w2.heap[w.heap.size]?=some (.cells #[.int .i64 fr.n,.int .i64 fr.t,.int .i64 fr.a,.int .i64 fr.f] 106):=(hG3.1.block _ hFl1 (fun e=>HSF.out _ e rfl)).trans KF1.out;have v3:=z6 kF2 3;obtain⟨hfo,hfl⟩:=hP3.fown;obtain⟨fa,fc,hfv⟩:=Q0 hfo;obtain⟨ts3,tm3,at3,am3,fs3,ks3,vd3,ml3⟩:=xs3;simp only at he5 he6 hfv;subst he5 he6 hfv;have kb3:=hP3.p.ts.blk;have e5:=z6 kb3 5;have hs3:=z8 kb3;have HOR:=q8 (z7 hfo ((q9.refl (fun _=>False) w2).drew) (fun _ _ f=>f));have HP3:=q8 (hP3.ext ((q9.refl (fun _=>False) w2).drew) (fun _ _ f=>f));have HG3:=q8 ((HG2.out.trans hG3).ext ((q9.refl (fun _=>False) w2).drew));have KB3:=q8 kb3;clear hP3 hG3 kF2 hfo kb3 v1 v2;go_wp2_with fail
   go_region_law (go_simp;go_wp2_with (go_at_call 45;refine(jo1 HOR.out hf (by omega)).mono ?_;rintro e w3 ⟨v',rfl,hown3,hx3,hob⟩;obtain⟨va,vc,rfl⟩:=Q0 hown3;have kb4:w3.heap[sb]?=some (.cells #[nv1,ts3,tm3,at3,am3,.slice fa Y.length fc,.slice (some ⟨g,0,none⟩) K.length kc,vd3,ml3] 98):=(hx3.block sb hs3 (fun e=>(HP3.out.f1 sb e).1 (.inl (.inl rfl)))).trans KB3.out;have d5:=z6 kb4 5;have d5f:=Q8 kb4 5))
   all_goals
    have hW:q9 (fun k=>k=sb) w3 (w3.setCell ⟨sb,5,none⟩ (.slice va fr.f vc)):=(q9.refl (fun k=>k=sb) w3).setCell (p:=⟨sb,5,none⟩) (fun _=>rfl) _;obtain⟨hP4,hG4⟩:=qy7 (Y':=Y.take fr.f) HP3.out (Y4 kb4 5 _) (by rw[List.length_take,Nat.min_eq_left hf,qG0 hfl];exact z7 hown3 hW (fun k hk e=>(HP3.out.f1 k (hob▸hk)).1 (.inl (.inl e)))) (fun cs hc=>hfl cs (List.mem_of_mem_take hc)) (by rw[List.length_take];omega) ((hx3.mono (fun _ _ e=>Or.inr e)).trans' hW (fun _ _ e=>Or.inl e)) (fun k hk=>.inl (hob▸hk));have hG:=HG3.out.trans hG4;have HSP:Hid (ze4 w sb nv _ _ _ _ _ _ _):=q8 ⟨hG.1,_,_,hP4,hG.2⟩;clear hP4 hG4 hG;go_wp2_with fail;refine(zA4 HSP.out).mono ?_;rintro e w9 ⟨rfl,h9⟩;have H9:=q8 h9;clear h9;go_wp2_with fail;go_ret;exact⟨rfl,H9.out⟩
theorem qw9{ps k:Nat}:PF ps px0 k↔k=ps:=by
 constructor
 ·rintro((e|e|e)|e|e)
  ·exact e
  all_goals exact absurd e (by simp[px0,Value.ownBlock,U5])
 ·exact fun e=>.inl (.inl e)
theorem jr9{ps k:Nat}{pv:Value}:SF ps pv px0 k↔k=ps\/pv.ownBlock=some k:=by
 constructor
 ·rintro(e|e|e|e)
  ·exact .inl (qw9.1 e)
  ·exact .inr e
  all_goals exact absurd e (by simp[px0,Value.ownBlock])
 ·rintro(e|e)
  ·exact .inl (qw9.2 e)
  ·exact .inr (.inl e)
theorem jk2{w:World}{ps:Nat}{N:List Nm}{pv:Value}(h:PS w ps N pv px0):PSS w ps N pv px0 [] [] [] [] where
 p:=⟨⟨h.blk,⟨World.ownsRow_nil _ _ _ _,List.nodup_nil,by simp[keys],.inl ⟨rfl,rfl⟩,fun g hg=>absurd hg (by simp[px0,Value.ownBlock])⟩,by intro i x hx;simp at hx,List.nodup_nil,fun g hg=>absurd hg (by simp[px0,Value.ownBlock]),fun g hg=>absurd hg (by simp[px0,U5])⟩,
  ⟨World.ownsRow_nil _ _ _ _,List.nodup_nil,by simp[keysA],.inl ⟨rfl,rfl⟩,fun g hg=>absurd hg (by simp[px0,Value.ownBlock])⟩,by intro x hx;simp at hx,List.nodup_nil,fun g hg=>absurd hg (by simp[px0,Value.ownBlock]),fun g hg=>absurd hg (by simp[px0,U5]),fun k _=>by simp[px0,Value.ownBlock,U5]⟩
 nown:=h.own
 few:=h.few
 ok:=h.ok
 fown:=⟨World.ownsRow_nil _ _ _ _,by simp⟩
 kown:=World.ownsRow_nil _ _ _ _
 ffew:=by simp
 kfew:=by simp
 tfew:=by simp
 afew:=by simp
 n1:=fun k hk=>⟨fun e=>h.sep k hk (qw9.1 e),by simp[px0,Value.ownBlock],by simp[px0,Value.ownBlock]⟩
 f1:=fun k hk=>absurd hk (by simp[px0,Value.ownBlock])
 k1:=fun k hk=>absurd hk (by simp[px0,Value.ownBlock])
theorem qx0{w w':World}{ps:Nat}{N:List Nm}{T A:List Nd}{K:List Fr4}{pv:Value}{xs:PX}{F:Int}{s:ByteArray}{a:Int}{Y:List (List Value)}{e:Ending}(h:PSS w ps N pv xs T A Y K)(hd:qZ6 w ps N pv xs F s a e w'):e=.returned (.int .i64 (K8 N s.toList a))/\ze4 w ps pv xs (za7 N F s a) T A Y K w':=by
 obtain⟨h1,h2,nv',h3,h4⟩:=hd;by_cases h0:K8 N s.toList a=0
 ·rw[if_pos h0] at h3;obtain⟨h5,h6⟩:=zx5 h h3.blk h3.own h3.few h3.ok h2 h4;exact⟨h1,h6.1,nv',xs.fg,h5,h6.2⟩
 ·rw[if_neg h0] at h3;obtain⟨h5,h6⟩:=zx5 h h3.blk h3.own h3.few h3.ok h2 h4;exact⟨h1,h6.1,nv',xs,h5,h6.2⟩
end Go.Proofs.YtegbdaffhpiacaaGreatDoor
