/- A part of the proof. -/
import Derived.Test.YtegbdaffhpiacaaGreatDoorMod29
import Derived.Test.YtegbdaffhpiacaaGreatDoorMod44
import Derived.Deep.AppendLies
import Derived.Deep.QuietTactic
import Derived.BigQuiet
set_option maxRecDepth 100000
set_option maxHeartbeats 2000000
namespace Go.Proofs.YtegbdaffhpiacaaGreatDoor
open Go.Proofs.Tryz hiding parts
open Go.RowKit Go.Maps Ar
section
variable{w w':World}{sb:Nat}{N:List Nm}{L:List (Nd × Int)}{T A:List Nd}{K:List Fr4}{nv:Value}{xs:PX}{D:Nat->Prop}{Y:List (List Value)}
theorem jv7(r:Bool)(ma:Option Addr)(mn mc:Nat)(w:World):Sem.run prog (Instr.field 74 (.agg #[.bool r,.slice ma mn mc]) 0) w=.ok (.bool r) w:=by kernel_rfl
def nd0:Nd:=.mk 0 ByteArray.empty 0 []
def zd3(ps:List Nd)(ids:List Nat):List Nd:=ids.map fun i=>ps.getD i nd0
structure CB(w:World)(D:Nat->Prop)(A ps:List Nd)(pv:Value)(wr:World):Prop where
 ext:q9 (fun _=>False) w wr
 ex:∃ kids:List (List Value),wr.ownsRow 0 112 4 pv ps.length kids.flatten/\(∀ cs∈kids,cs.length=4)/\kids.length=ps.length/\∀ (i:Nat) (cs:List Value) (p:Nd),kids[i]?=some cs->ps[i]?=some p->FT w D A cs p
 ob:∀ g,pv.ownBlock=some g->w.heap.size<=g
theorem CB.step{ps:List Nd}{pv v':Value}{wr w2:World}{cs:List Value}{p:Nd}{o:Obj}(h:CB w D A ps pv wr)(hf:FT w D A cs p)(hcs:cs.length=4)(hgrow:(wr.alloc o).grownBy w2 pv.ownBlock)(hat:v'.ownBlock=pv.ownBlock\/v'.ownBlock=some (wr.heap.size+1))
  {kids:List (List Value)} (h2:∀ cs∈kids,cs.length=4) (h3:kids.length=ps.length) (h4:∀ (i:Nat) (cs:List Value) (p:Nd),kids[i]?=some cs->ps[i]?=some p->FT w D A cs p) (hown:w2.ownsRow 0 112 4 v' (ps.length+1) (kids.flatten++cs)):CB w D A (ps++[p]) v' w2:=by
 have hx:q9 (fun k=>pv.ownBlock=some k) wr w2:=(((q9.refl (fun _=>False) wr).alloc o).mono (fun _ _ f=>f.elim)).grown hgrow (fun k hk _=>hk);refine⟨h.ext.trans' hx (fun k hk e=>by have:=h.ob k e;omega),⟨kids++[cs],?_,fun c hc=>?_,by simp[h3],fun i c q hc hq=>?_⟩,fun g hg=>?_⟩
 ·rw[List.length_append,List.flatten_append];simpa using hown
 ·rcases List.mem_append.1 hc with hc|hc
  ·exact h2 c hc
  ·simp at hc;rw[hc];exact hcs
 ·by_cases hi:i<ps.length
  ·rw[List.getElem?_append_left hi] at hq;rw[List.getElem?_append_left (by omega)] at hc;exact h4 i c q hc hq
  ·have hl:=(List.getElem?_eq_some_iff.1 hq).1;simp at hl;obtain rfl:i=ps.length:=by omega
   rw[List.getElem?_append_right (Nat.le_refl _)] at hq;rw[List.getElem?_append_right (by omega),h3] at hc;simp at hq hc;subst hq hc;exact hf
 ·rcases hat with e|e
  ·rw[e] at hg;exact h.ob g hg
  ·rw[e] at hg;simp at hg;have:=h.ext.size;omega
theorem CB.kids{ps:List Nd}{pv:Value}{wr:World}(h:CB w D A ps pv wr):zn0 wr (fun k=>D k\/w.heap.size<=k) A ps pv:=by obtain⟨kids,h1,h2,h3,h4⟩:=h.ex;exact⟨kids,h1,h2,h3,fun g hg=>.inr (h.ob g hg),fun i cs p hc hp=>((h4 i cs p hc hp).ext h.ext (fun _ _ _ f=>f)).mono (fun _ _ e=>.inl e)⟩
theorem jf0:CB w D A [] (.slice none 0 0) w:=⟨q9.refl _ _,⟨[],World.ownsRow_nil _ _ _ _,by simp,rfl,by simp⟩,fun g hg=>by simp[Value.ownBlock] at hg⟩
theorem zV6{ps:List Nd}{ids:List Nat}{j x:Nat}(h:ids[j]?=some x):zd3 ps (ids.take (j+1))=zd3 ps (ids.take j)++[ps.getD x nd0]:=by
 unfold zd3;rw[List.take_add_one,h,List.map_append]
 rfl
theorem qt1(h:PL w sb N L T A K nv xs D Y)(hp:K9 w){g cap n:Nat}{ids:List Nat}(hi:w.ownsRow 0 3 1 (.slice (some ⟨g,0,none⟩) n cap) n (O4 ids))(hn:n<=20)(hlt:∀ i∈ids,i<L.length):
  Calls prog 76 #[.pointer (some ⟨sb,0,none⟩),.slice (some ⟨g,0,none⟩) n cap] w fun e w'=>∃ r,e=.returned (.bool r)/\(r=true↔¬Sat (zd3 (L.map Prod.fst) ids))/\q9 (fun _=>False) w w':=by
 have hps:∀ p∈L.map Prod.fst,FmW p/\∀ x∈J0 false p,x∈A:=by intro p hp;obtain⟨q,hq,rfl⟩:=List.mem_map.1 hp;exact⟨h.fw q hq,fun x hx=>(h.st.aw.mem x).2 ⟨q,hq,hx⟩⟩
 have kb:=h.ss.p.ts.blk;obtain⟨fa,fc,e1⟩:=Q0 h.ss.fown.1;have hll:=zh2 hi;have hcap:n<=cap:=by
  rcases hi.2 with⟨e,_⟩|⟨g,cap',cur,hv,_,_,h1,_⟩
  ·cases e
  ·simp at hv;omega
 have H:=q8 h;have HP:=q8 hp;have HI:=q8 hi;have HLT:=q8 hlt;have HPS:=q8 hps;obtain⟨ts,tm,at_,am,fs,ks,vd,ml⟩:=xs;simp only at e1;subst e1;have KB:=q8 kb;have hsb:=z8 kb;clear h hp hi hlt hps kb;go_enter func76,ntmps76;have hkd:=H.out.kids;obtain⟨i0,hi0,hz0,hz1,hz2⟩:=info_parts zH8;have HI0:=q8 (And.intro hi0 (And.intro hz0 (And.intro hz1 hz2)));have HKD:=q8 hkd;clear hkd hi0 hz0 hz1 hz2;go_wp2_with fail
 go_loopw [5,10] (fun vs vi wr=>∃ j:Nat,j<=n/\vi=.int .i64 j/\CB w (fun k=>D k\/(Value.slice fa Y.length fc).ownBlock=some k) A (zd3 (L.map Prod.fst) (ids.take j)) vs wr) (fun _ vi _=>n-(intOf vi).toNat)
 case atStart=>exact⟨0,Nat.zero_le _,rfl,jf0⟩
 case round=>
  obtain⟨j,hj,rfl,hC⟩:=hrel;have HC:=q8 hC;have kr:=(hC.ext.block _ hsb (fun f=>f)).trans KB.out;have c5:=z6 kr 5;have hpl:(zd3 (L.map Prod.fst) (ids.take j)).length=j:=by unfold zd3;rw[List.length_map,List.length_take];omega
  obtain⟨sa,sc,hvs⟩:∃ sa sc,u5=.slice sa j sc:=by obtain⟨kids,h1,_⟩:=hC.ex;rw[hpl] at h1;exact Q0 h1
  clear hC kr;by_cases hlt:j<n
  ·obtain⟨x,hx⟩:∃ x,ids[j]?=some x:=⟨_,List.getElem?_eq_getElem (by omega)⟩;have hxl:=HLT.out x (List.mem_of_getElem? hx);have z:=zn8 (z7 HI.out HC.out.ext (fun _ _ f=>f)) hx;obtain⟨p,hp⟩:∃ p,(L.map Prod.fst)[x]?=some p:=⟨_,List.getElem?_eq_getElem (by simpa using hxl)⟩;obtain⟨gf,fcap,k',wd',a',qa,qn,qc,hpv,hgf,y0,y1,y2,y3,hft⟩:=HKD.out.part hp;simp only[List.length_map,Value.slice.injEq] at hpv;obtain⟨rfl,hYL,rfl⟩:=hpv;have y0':=(HC.out.ext.cell (p:=⟨gf,x*4,none⟩) hgf (fun f=>f)).trans y0;have y1':=(HC.out.ext.cell (p:=⟨gf,x*4+1,none⟩) hgf (fun f=>f)).trans y1;have y2':=(HC.out.ext.cell (p:=⟨gf,x*4+2,none⟩) hgf (fun f=>f)).trans y2;have y3':=(HC.out.ext.cell (p:=⟨gf,x*4+3,none⟩) hgf (fun f=>f)).trans y3;have hxY:x<Y.length:=by omega
   have hjc:j<cap:=by omega
   have HFT:=q8 hft;have HXX:=q8 hx;have HPP:=q8 hp;obtain⟨kids,h1,h2,h3,h4⟩:=HC.out.ex;rw[hpl] at h1;subst hvs;have HH1:=q8 h1;have HH2:=q8 h2;have HH3:=q8 h3;have HH4:=q8 h4;obtain⟨hi0,hz0,hz1,hz2⟩:=HI0.out;clear hft hx hp h1 h2 h3 h4 y0 y1 y2 y3;go_wp2_with (at_builtin;refine wpList_append_own_at _ rfl _ _ 89 rfl 0 112 i0 _ 4 56 underlying89 hi0 hz0 hz1 hz2 rfl (by decide) _ _ _ rfl (HH1.out.alloc _) ⟨wr.heap.size,0,none⟩ 1 1 [.int .i64 k',.string wd',.int .i64 a',.slice qa qn qc] rfl rfl ?c1 ?c2 ?c3 ?c4 ?c5 ?_)
   case c1=>
    intro q u hq
    match q,hq with
    | 0,hq=>simp at hq;subst hq;simp[Addr.add]
    | 1,hq=>simp at hq;subst hq;simp[Addr.add]
    | 2,hq=>simp at hq;subst hq;simp[Addr.add]
    | 3,hq=>simp at hq;subst hq;simp[Addr.add]
   case c2=>intro u hu;simp at hu;rcases hu with rfl|rfl|rfl|rfl<;>rfl
   case c3=>unfold maxLen;omega
   case c4=>omega
   case c5=>omega
   intro v' w2 hown' hgrow _ hat;have hC2:=HC.out.step HFT.out rfl hgrow hat HH2.out HH3.out HH4.out (by rw[hpl];exact hown');have e2:(L.map Prod.fst).getD x nd0=p:=by rw[List.getD_eq_getElem?_getD,HPP.out];rfl
   rw[<- e2,<- zV6 HXX.out] at hC2;obtain⟨a2,cc2,rfl⟩:=Q0 hown';have HC2:=q8 hC2;clear hown' hgrow hat hC2 e2 hi0 hz0 hz1 hz2;go_wp2_with fail
   go_roundw
   case measure=>simp[intOf];omega
   case rel=>exact⟨j+1,by omega,by go_num,HC2.out⟩
  ·have hjn:j=n:=by omega
   subst hjn;have hge:¬(j:Int)<(j:Int):=by omega
   have hpk:zd3 (L.map Prod.fst) (ids.take j)=zd3 (L.map Prod.fst) ids:=by rw[List.take_of_length_le (by omega)]
   have hC:=HC.out;rw[hpk] at hC;have hd:=zR2 (H.out.ss.p.ext hC.ext (fun _ _ f=>f)) H.out.ss.tfew H.out.ss.afew H.out.st.te hC.kids (fun p hp=>by unfold zd3 at hp;obtain⟨i,hi,rfl⟩:=List.mem_map.1 hp;have hil:=HLT.out i hi;rw[List.getD_eq_getElem?_getD,List.getElem?_eq_getElem (by simpa using hil)];exact HPS.out _ (List.getElem_mem _)) (HP.out.ext hC.ext (fun f=>f))
   have HD:=q8 hd;have HXR:=q8 hC.ext;subst hvs;clear hd hC hpk;go_wp2_with fail;refine HD.out.mono ?_;rintro e w2 ⟨r,mv,rfl,hx2,hr,_,ma,mn,mc,rfl⟩;have HR:=q8 hr;have HX2:=q8 (HXR.out.trans hx2);have hfl:=jv7 r ma mn mc w2;clear hr hx2 HD;go_wp2_with fail;go_ret;refine⟨!r,rfl,?_,HX2.out⟩;rw[<- HR.out];cases r<;>simp
end
section
variable{w w':World}{sb:Nat}{N:List Nm}{L:List (Nd × Int)}{T A:List Nd}{K:List Fr4}{nv:Value}{xs:PX}{D:Nat->Prop}{Y:List (List Value)}
structure Bl(ps:List Nd)(n:Nat)(ids:List Nat):Prop where
 up:ids.Pairwise (·<·)
 lt:∀ i∈ids,i<n
 no:¬Sat (zd3 ps ids)
theorem Bl.start{ps:List Nd}(h:¬Sat ps):Bl ps ps.length (List.range ps.length):=by
 refine⟨List.pairwise_lt_range,fun i hi=>List.mem_range.1 hi,fun hs=>h ?_⟩;have e:zd3 ps (List.range ps.length)=ps:=by
  apply List.ext_getElem?;intro i;unfold zd3;rw[List.getElem?_map];by_cases hi:i<ps.length
  ·rw[List.getElem?_range hi,Option.map_some,List.getD_eq_getElem?_getD,List.getElem?_eq_getElem hi]
   rfl
  ·rw[List.getElem?_eq_none (by simp;omega),List.getElem?_eq_none (by omega)]
   rfl
 rw[<- e];exact hs
theorem Bl.less{ps:List Nd}{n one:Nat}{ids:List Nat}(h:Bl ps n ids)(hn:¬Sat (zd3 ps (ids.filter (fun x => !(x==one))))):Bl ps n (ids.filter (fun x => !(x==one))) :=
 ⟨h.up.filter _,fun i hi=>h.lt i (List.mem_filter.1 hi).1,hn⟩
theorem Bl.few{ps:List Nd}{n:Nat}{ids:List Nat}(h:Bl ps n ids):ids.length<=n:=by
 have key:∀ (l:List Nat) (a:Nat),l.Pairwise (·<·)->(∀ i∈l,a<=i/\i<n)->a<=n->l.length+a<=n:=by
  intro l
  induction l with
  | nil=>intro a _ _ ha;simpa using ha
  | cons x l ih=>intro a hp hb ha;have hx:=hb x (by simp);have:=ih (x+1) (List.pairwise_cons.1 hp).2 (fun i hi=>⟨(List.pairwise_cons.1 hp).1 i hi,(hb i (by simp[hi])).2⟩) (by omega);simp;omega
 have:=key ids 0 h.up (fun i hi=>⟨Nat.zero_le _,h.lt i hi⟩) (Nat.zero_le _);omega
theorem jf1(h:PL w sb N L T A K nv xs D Y)(hp:K9 w)(hns:¬Sat (L.map Prod.fst)):
  Calls prog 75 #[.int .i64 L.length,.func (.func 76) #[.pointer (some ⟨sb,0,none⟩)] #[]] w fun e w'=>∃ g m cap,e=.returned (.slice (some ⟨g,0,none⟩) m cap)/\q9 (fun _=>False) w w'/\∃ ids,w'.ownsRow 0 3 1 (.slice (some ⟨g,0,none⟩) m cap) m (O4 ids)/\Bl (L.map Prod.fst) L.length ids:=by
 have hL0:0<L.length:=by
  cases L with
  | nil=>exact absurd qB9 hns
  | cons a l=>simp
 have hL20:L.length<=20:=by rw[<- h.yl];exact h.ss.ffew
 have hb0:=Bl.start hns;rw[List.length_map] at hb0;have HB0:=q8 hb0;have H:=q8 h;have HP:=q8 hp;clear h hp hns hb0;go_enter func75,ntmps75;go_wp2_with fail;refine(qT4 w L.length hL0 hL20).mono ?_;rintro e w1 ⟨v,rfl,hx1,ho1⟩;obtain⟨g1,c1,rfl⟩:∃ g1 c1,v=.slice (some ⟨g1,0,none⟩) L.length c1:=by
  rcases ho1.2 with⟨_,e⟩|⟨g1,c1,cur,hv,_⟩
  ·omega
  ·exact⟨g1,c1,hv⟩
 have HX1:=q8 hx1;have HO1:=q8 ho1;clear hx1 ho1;go_wp2_with fail
 go_loopw [5,11] (fun vs vi wr=>∃ (j g m cap:Nat) (ids:List Nat),j<=L.length/\vs=.slice (some ⟨g,0,none⟩) m cap/\vi=.int .i64 j/\q9 (fun _=>False) w wr/\wr.ownsRow 0 3 1 (.slice (some ⟨g,0,none⟩) m cap) m (O4 ids)/\Bl (L.map Prod.fst) L.length ids/\∀ i,j<=i->i<L.length->i∈ids) (fun _ vi _=>L.length-(intOf vi).toNat)
 case atStart=>exact⟨0,g1,L.length,c1,_,Nat.zero_le _,rfl,rfl,HX1.out,HO1.out,HB0.out,fun i _ hi=>List.mem_range.2 hi⟩
 case round=>
  clear HX1 HO1 HB0;obtain⟨j,g,m,cap,ids,hj,rfl,rfl,hx,ho,hB,hin⟩:=hrel;have HX:=q8 hx;have HO:=q8 ho;have HB:=q8 hB;have HIN:=q8 hin;have hm:m<=20:=by rw[<- zh2 ho];exact Nat.le_trans hB.few hL20
  clear hx ho hB hin;by_cases hlt:j<L.length
  ·have HC1:=q8 (qj3 j HO.out hm (HIN.out j (Nat.le_refl _) hlt));go_wp2_with fail;refine HC1.out.mono ?_;rintro e w2 ⟨g2,m2,c2,rfl,hx2,ho2⟩;have hm2:m2<=20:=by rw[<- zh2 ho2];exact Nat.le_trans (List.length_filter_le _ _) (by rw[zh2 HO.out];exact hm)
   have HX2:=q8 (HX.out.trans hx2);have HXR2:=q8 hx2;have HO2:=q8 ho2;have HC2:=q8 (qt1 (H.out.ext HX2.out (fun _ _ f=>f)) (HP.out.ext HX2.out (fun f=>f)) ho2 hm2 (fun i hi=>HB.out.lt i (List.mem_filter.1 hi).1));clear hx2 ho2 HC1;go_wp2_with fail;refine HC2.out.mono ?_;rintro e w3 ⟨r,rfl,hr,hx3⟩;have HX3:=q8 (HX2.out.trans hx3);have HX23:=q8 hx3;clear hx3 HC2;cases r with
   | false=>
    clear hr;go_wp2_with fail
    go_roundw
    case measure=>simp[intOf];omega
    case rel=>exact⟨j+1,g,m,cap,ids,by omega,rfl,by go_num,HX3.out,z7 HO.out (HXR2.out.trans HX23.out) (fun _ _ f=>f),HB.out,fun i hi=>HIN.out i (by omega)⟩
   | true=>
    have HR:=q8 (hr.1 rfl);clear hr;go_wp2_with fail
    go_roundw
    case measure=>simp[intOf];omega
    case rel=>exact⟨j+1,g2,m2,c2,_,by omega,rfl,by go_num,HX3.out,z7 HO2.out HX23.out (fun _ _ f=>f),HB.out.less HR.out,fun i hi hl=>List.mem_filter.2 ⟨HIN.out i (by omega) hl,by simp;omega⟩⟩
  ·have hge:¬(j:Int)<(L.length:Int):=by omega
   go_wp2_with fail;go_ret;exact⟨g,m,cap,rfl,HX.out,ids,HO.out,HB.out⟩
def qT5(w:World)(sb:Nat)(L:List (Nd × Int)):Prop:=∀ W,q9 (fun _=>False) w W ->
 Calls prog 49 #[.pointer (some ⟨sb,0,none⟩)] W fun e W'=>∃ g m cap,e=.returned (.tuple #[.slice (some ⟨g,0,none⟩) m cap,.int .i64 0])/\q9 (fun _=>False) W W'/\∃ ids,W'.ownsRow 0 3 1 (.slice (some ⟨g,0,none⟩) m cap) m (O4 ids)/\Bl (L.map Prod.fst) L.length ids
theorem qT6(h:PL w sb N L T A K nv xs D Y)(hvd:xs.vd=.int .i64 2)(hp:K9 w)(hns:¬Sat (L.map Prod.fst)):qT5 w sb L:=by intro W hW;have hc:=jf1 (h.ext hW (fun _ _ f=>f)) (hp.ext hW (fun f=>f)) hns;rw[<- h.yl] at hc;have HYL:=q8 h.yl;have kb:=(hW.block _ (z8 h.ss.p.ts.blk) (fun f=>f)).trans h.ss.p.ts.blk;obtain⟨fa,fc,e1⟩:=Q0 h.ss.fown.1;obtain⟨ts,tm,at_,am,fs,ks,vd,ml⟩:=xs;simp only at e1 hvd;subst e1 hvd;have c5:=z6 kb 5;have c7:=z6 kb 7;have HC:=q8 hc;clear h hc kb hp hns;go_enter func49,ntmps49;go_wp2_with fail;refine HC.out.mono ?_;rintro e w1 ⟨g,m,cap,rfl,hx1,ids,ho1,hb1⟩;have HX1:=q8 hx1;have HO1:=q8 ho1;have HB1:=q8 hb1;clear hx1 ho1 hb1 HC;go_wp2_with fail;refine bodyPost_ret (v:=.tuple #[.slice (some ⟨g,0,none⟩) m cap,.int .i64 0]) (by simp[results,results49,go_sem]) rfl ?_;refine⟨g,m,cap,rfl,HX1.out,ids,HO1.out,?_⟩;rw[<- HYL.out];exact HB1.out
theorem Fnd.core(h:Fnd w sb N L false)(hp:K9 w)(hns:¬Sat (L.map Prod.fst)):qT5 w sb L:=by obtain⟨T,A,K,nv,xs,D,Y,hP,_,hf⟩:=h;exact qT6 hP (hf rfl) hp hns
end
section
variable{w w0 w':World}{sb:Nat}{N:List Nm}{L:List (Nd × Int)}{d:Nat}{G:Nat->Prop}
theorem qz9(h:KS w0 G w sb N L d)(hp:K9 w0):
  Calls prog 17 #[.pointer (some ⟨sb,0,none⟩)] w fun e w'=>∃ r,e=.returned (.bool r)/\(r=true↔Sat (L.map Prod.fst))/\KP w0 G w sb N L d w'/\Fnd w' sb N L r:=by
 obtain⟨F,h3,h4⟩:=h.2.2;refine(qH8 h3 (hp.ext h.1 (fun f=>f))).mono ?_;rintro e w' ⟨r,rfl,hr,hp,hf⟩;exact⟨r,rfl,hr,hp.kp h h4,hf⟩
def qT7(ps:List Nd):Prop:=∃ T A:List Nd,T.length<=12/\A.length<=16/\∀ p∈ps,(∀ x∈J0 true p,x∈T)/\∀ x∈J0 false p,x∈A
theorem Fnd.few{r:Bool}(h:Fnd w sb N L r):qT7 (L.map Prod.fst):=by obtain⟨T,A,K,nv,xs,D,Y,hP,_⟩:=h;refine⟨T,A,hP.ss.tfew,hP.ss.afew,fun p hp=>?_⟩;obtain⟨q,hq,rfl⟩:=List.mem_map.1 hp;exact⟨fun x hx=>(hP.st.ts.mem x).2 ⟨q,hq,hx⟩,fun x hx=>(hP.st.aw.mem x).2 ⟨q,hq,hx⟩⟩
theorem qA0{t:Bool}{Q:List Nd}{nd:Nd}{S:List Nd}(h:∀ p∈Q++[nd],∀ x∈J0 t p,x∈S):cnt t Q nd<=S.length:=by
 have:=qt4 (Z0 t (Q++[nd])) (S.map j9) (fun x hx=>by obtain⟨f,hf,hx⟩:=Y9.1 hx;exact List.mem_map.2 ⟨x,h f hf x hx,rfl⟩)
 simpa[cnt] using this
theorem jf2{ps Q:List Nd}{nd:Nd}{s:ByteArray}(hf:qT7 ps)(hQ:∀ p∈Q++[nd],p∈ps)(hl:Q.length<20)(hs:s.toList=j9 nd)(hR:RF N 0 nd)(h6:(j9 nd).length<=600):O5 N Q s=(0,0,some nd):=by
 obtain⟨T,A,hT,hA,hm⟩:=hf;obtain⟨us,e⟩:=zT0 hR;have hsz:s.size<=600:=by rw[<- Z4,hs];exact h6
 have h1:=qA0 (t:=true) (S:=T) (fun p hp=>(hm p (hQ p hp)).1);have h2:=qA0 (t:=false) (S:=A) (fun p hp=>(hm p (hQ p hp)).2);unfold O5;rw[if_neg (by omega),hs,e];simp only;rw[if_neg (by omega),if_neg (by omega),if_neg (by omega)]
structure TR(w:World)(D:Nat->Prop)(lv:Value)(nds:List Nd):Prop where
 ex:∃ ts:List Nat,w.ownsRow 0 31 1 lv nds.length (ts.map fun a=>.pointer (some ⟨a,0,none⟩))/\ts.length=nds.length/\∀ (i a:Nat) (p:Nd),ts[i]?=some a->nds[i]?=some p->KT w D a p
 mf:∀ p∈nds,MF zd6 2 p
 ob:∀ g,lv.ownBlock=some g->D g
theorem TR.ext{S D:Nat->Prop}{lv:Value}{nds:List Nd}(h:TR w D lv nds)(hx:q9 S w w')(hS:∀ k,D k->¬S k):TR w' D lv nds:=by obtain⟨ts,h1,h2,h3⟩:=h.ex;exact⟨⟨ts,z7 h1 hx (fun k hk=>hS k (h.ob k hk)),h2,fun i a p ha hp=>(h3 i a p ha hp).ext hx (fun k _ e=>hS k e)⟩,h.mf,h.ob⟩
theorem TR.at{D:Nat->Prop}{lv:Value}{nds:List Nd}(h:TR w D lv nds){i:Nat}{p:Nd}(hp:nds[i]?=some p):∃ q cap a,lv=.slice (some ⟨q,0,none⟩) nds.length cap/\nds.length<=cap/\w.cell? ⟨q,i,none⟩=some (.pointer (some ⟨a,0,none⟩))/\KT w D a p/\FmD zd6 2 p/\MF zd6 2 p:=by
 obtain⟨ts,h1,h2,h3⟩:=h.ex;have hi:=(List.getElem?_eq_some_iff.1 hp).1;obtain⟨q,cap,rfl,hq,hc⟩:=za6 h1 (by omega);obtain⟨a,ha⟩:∃ a,ts[i]?=some a:=⟨_,List.getElem?_eq_getElem (by omega)⟩;have hm:=h.mf p (List.mem_of_getElem? hp);have hcap:nds.length<=cap:=by
  rcases h1.2 with⟨e,_⟩|⟨g,cap',cur,hv,_,hh,h1,_⟩
  ·simp at e
  ·simp at hv;omega
 exact⟨q,cap,a,rfl,hcap,hc i a ha,h3 i a p ha hp,hm.fm,hm⟩
def fr0(ps:List Nd):List (Nd × Int):=ps.map fun p=>(p,((0:Nat):Int))
theorem zl4(ps:List Nd):(fr0 ps).map Prod.fst=ps:=by unfold fr0;rw[List.map_map];exact List.map_id ps
theorem qA1(ps:List Nd)(p:Nd):fr0 (ps++[p])=fr0 ps++[(p,((0:Nat):Int))]:=by simp[fr0]
theorem qt2{D:Nat->Prop}{lv:Value}{nds:List Nd}(hc:qT5 w sb L)(hL:L.map Prod.fst=nds)(hf:qT7 nds)(ht:TR w D lv nds)(hn:nds.length<=6)(hhd:U4 w)(hpt:K9 w):
  Calls prog 28 #[.pointer (some ⟨sb,0,none⟩),lv] w fun e w'=>e=.returned (.bool true)/\q9 (fun _=>False) w w':=by
 have hll:L.length=nds.length:=by rw[<- hL,List.length_map]
 obtain⟨la,lc,rfl⟩:∃ la lc,lv=.slice la nds.length lc:=by obtain⟨ts,h1,_⟩:=ht.ex;exact Q0 h1
 have HC:=q8 (hc w (q9.refl _ _));have HF:=q8 hf;have HT:=q8 ht;have HHD:=q8 hhd;have HPT:=q8 hpt;have HLL:=q8 hll;have HL:=q8 hL;clear hc hL hf ht hhd hpt hll;go_enter func28,ntmps28;go_wp2_with fail;refine HC.out.mono ?_;rintro e w1 ⟨g,m,cap,rfl,hx1,ids,ho,hb⟩;rw[HL.out,HLL.out] at hb;have hm:=zh2 ho;have hmf:=hb.few;have hmc:m<=cap:=by
  rcases ho.2 with⟨e,_⟩|⟨g,cap',cur,hv,_,_,h1,_⟩
  ·cases e
  ·simp at hv;omega
 have HO:=q8 ho;have HB:=q8 hb;have HX1:=q8 hx1;have HC2:=q8 (zN4 w1 (HHD.out.ext hx1 (fun f=>f)) (HPT.out.ext hx1 (fun f=>f)));clear ho hb hx1 HC;go_wp2_with fail;refine HC2.out.mono ?_;rintro e w2 ⟨tb,rfl,h2⟩;have H2:=q8 h2;clear h2 HC2;go_wp2_with fail
 go_loopw [8] (fun vi wr=>∃ j:Nat,j<=m/\vi=.int .i64 j/\KS w1 (fun _=>False) wr tb zd6 (fr0 (zd3 nds (ids.take j))) 0) (fun vi _=>m-(intOf vi).toNat)
 case atStart=>exact⟨0,Nat.zero_le _,rfl,H2.out⟩
 case round=>
  clear H2;obtain⟨j,hj,rfl,hK⟩:=hrel;have HK:=q8 hK;clear hK;by_cases hlt:j<m
  ·obtain⟨x,hx⟩:∃ x,ids[j]?=some x:=⟨_,List.getElem?_eq_getElem (by omega)⟩;have hxl:=HB.out.lt x (List.mem_of_getElem? hx);obtain⟨p,hp⟩:∃ p,nds[x]?=some p:=⟨_,List.getElem?_eq_getElem hxl⟩;obtain⟨q,lcap,a,hlv,hlc,y0,kt,hfm,_⟩:=((HT.out.ext HX1.out (fun _ _ f=>f)).ext HK.out.1 (fun _ _ f=>f)).at hp;simp only[Value.slice.injEq,true_and] at hlv;obtain⟨rfl,rfl⟩:=hlv;have hoR:=z7 HO.out HK.out.1 (fun _ _ f=>f);have z:=zn8 hoR hx;have hpm:p∈nds:=List.mem_of_getElem? hp;have hl600:(j9 p).length<=600:=Nat.le_trans hfm.2 (by decide);have HRF:Hid (RF zd6 0 p):=hfm.1 0 (by omega);have e2:nds.getD x nd0=p:=by rw[List.getD_eq_getElem?_getD,hp];rfl
   have hpk:zd3 nds (ids.take (j+1))=zd3 nds (ids.take j)++[p]:=by rw[zV6 hx,e2]
   have hql:(zd3 nds (ids.take j)).length<20:=by unfold zd3;rw[List.length_map,List.length_take];omega
   have hQ:∀ r∈zd3 nds (ids.take j)++[p],r∈nds:=by intro r hr;rw[<- hpk] at hr;unfold zd3 at hr;obtain⟨i,hi,rfl⟩:=List.mem_map.1 hr;have hil:=HB.out.lt i (List.mem_of_mem_take hi);rw[List.getD_eq_getElem?_getD,List.getElem?_eq_getElem hil];exact List.getElem_mem _
   have HPK:=q8 hpk;have HQ:=q8 hQ;have KTT:=q8 kt;have hx0:decide ((x:Int)<0)=false:=by simp
   have hx1:decide ((nds.length:Int)<=(x:Int))=false:=by simp;omega
   have hxn:x<nds.length:=hxl;have hx2:decide (nds.length<=x)=false:=by simp;omega
   have hjc:j<cap:=by omega
   have HLD:Hid (∀ (W:World) (s:ByteArray),q9 (fun _=>False) wr W->s.toList=j9 p->Calls prog 15 #[.pointer (some ⟨tb,0,none⟩),.string s] W fun e w'=>e=.returned (.int .i64 0)/\KS w1 (fun _=>False) w' tb zd6 (fr0 (zd3 nds (ids.take (j+1)))) 0):=fun W s hW hs=>by
    refine(jg3 (HK.out.quiet hW) (Nat.le_trans (show s.size<=600 from by rw[<- Z4,hs];exact hl600) (by unfold maxLen;omega)) (HHD.out.ext HX1.out (fun f=>f)) (jf2 HF.out (by rw[zl4];exact HQ.out) (by rw[zl4];exact hql) hs HRF.out hl600)).mono ?_
    rintro e w' ⟨rfl,h,_⟩;refine⟨rfl,?_⟩;rw[HPK.out,qA1];exact h
   have HXT:=q8 (zN0 kt);cases j with
   | zero=>
    have hjm:(0:Int)<(m:Int):=by omega
    clear hp hpk hQ kt hfm hoR e2 hx;go_wp2_with fail
    go_quiet (fail)
    go_wp2_with fail;refine(HXT.out (wr.drewN nq) ((q9.refl (fun _=>False) wr).drewN nq) (by omega)).mono ?_;rintro e w5 ⟨s,rfl,hs,hx5⟩;have HC5:=q8 (HLD.out w5 s (((q9.refl (fun _=>False) wr).drewN nq).trans hx5) hs);clear hs hx5;go_wp2_with fail;refine HC5.out.mono ?_;rintro e w6 ⟨rfl,h6⟩;have H6:=q8 h6;clear h6 HC5;go_wp2_with fail
    go_roundw
    case measure=>simp[intOf];omega
    case rel=>exact⟨0+1,by omega,by go_num,H6.out⟩
   | succ j=>
    obtain⟨y,hy⟩:∃ y,ids[j]?=some y:=⟨_,List.getElem?_eq_getElem (by omega)⟩;have z2:=zn8 hoR hy;have hyx:y<x:=by obtain⟨h1,e1⟩:=List.getElem?_eq_some_iff.1 hy;obtain⟨h2,e2⟩:=List.getElem?_eq_some_iff.1 hx;rw[<- e1,<- e2];exact List.pairwise_iff_getElem.1 HB.out.up j (j+1) h1 h2 (by omega)
    have hd3:decide ((x:Int)<=(y:Int))=false:=by simp;omega
    have hd4:decide (x<=y)=false:=by simp;omega
    have hjm:(j:Int)+1<(m:Int):=by omega
    have hjm0:(0:Int)<(j:Int)+1:=by omega
    have hjm2:(j:Int)<(m:Int):=by omega
    have hwk:IntKind.i64.wrap ((j:Int)+1-1)=(j:Int):=by rw[IntKind.wrap_i64];omega
    have hwk2:(j:Int)+1-1=(j:Int):=by omega
    have hwk3:IntKind.i64.wrap (j:Int)=(j:Int):=by rw[IntKind.wrap_i64];omega
    clear hp hpk hQ kt hfm hoR e2 hx hy;go_wp2_with fail
    go_quiet (fail)
    go_wp2_with fail;refine(HXT.out (wr.drewN nq) ((q9.refl (fun _=>False) wr).drewN nq) (by omega)).mono ?_;rintro e w5 ⟨s,rfl,hs,hx5⟩;have HC5:=q8 (HLD.out w5 s (((q9.refl (fun _=>False) wr).drewN nq).trans hx5) hs);clear hs hx5;go_wp2_with fail;refine HC5.out.mono ?_;rintro e w6 ⟨rfl,h6⟩;have H6:=q8 h6;clear h6 HC5;go_wp2_with fail
    go_roundw
    case measure=>simp[intOf];omega
    case rel=>exact⟨j+1+1,by omega,by go_num,H6.out⟩
  ·have hjm:j=m:=by omega
   have hge:¬(j:Int)<(m:Int):=by omega
   have hK:=HK.out;rw[List.take_of_length_le (by omega)] at hK;have HC5:=q8 (qa4 hK (HPT.out.ext HX1.out (fun f=>f)));clear hK;go_wp2_with fail;refine HC5.out.mono ?_;rintro e w5 ⟨r,rfl,hr,h5⟩;obtain rfl:r=false:=by
    cases r with
    | false=>rfl
    | true=>have:=hr.1 rfl;rw[zl4] at this;exact absurd this HB.out.no
   have HX5:=q8 h5.1.1;clear hr h5 HC5;go_wp2_with fail;go_ret;exact⟨rfl,HX1.out.trans HX5.out⟩
end
section
variable{w w0 wr w':World}{sb rb:Nat}{N:List Nm}{L:List (Nd × Int)}{d:Nat}{G H Dt:Nat->Prop}{sa:Option Addr}{n cap k:Nat}{g:Nat->Int}{lv:Value}{ms nds:List Nd}
theorem KS.more{S G':Nat->Prop}(h:KS w0 G wr sb N L d)(hx:q9 S wr w')(hS:∀ k,S k->G k)(hG:∀ k,G k->w0.heap.size<=k)(hG':∀ k,G' k->G k\/(wr.heap.size<=k/\k<w'.heap.size)):KS w0 G' w' sb N L d:=by
 obtain⟨h1,h2,F,h3,h4⟩:=h;refine⟨h1.trans' hx (fun k hk e=>by have:=hG k (hS k e);omega),fun k hk=>?_,F,h3.ext hx (fun k hk e=>(h4 k hk).2 (hS k e)),fun k hk=>⟨(h4 k hk).1,fun e=>?_⟩⟩
 ·rcases hG' k hk with e|e
  ·exact Nat.lt_of_lt_of_le (h2 k e) hx.size
  ·exact e.2
 ·rcases hG' k e with e|e
  ·exact(h4 k hk).2 e
  ·have:=h3.lt k hk;omega
structure MI(w wr:World)(sb rb:Nat)(sa:Option Addr)(n cap k:Nat)(g:Nat->Int)(H Dt:Nat->Prop)(lv:Value)(ms nds:List Nd):Prop where
 ks:KS w H wr sb zd6 (fr0 ms) 0
 raw:RW wr rb sa n cap k g
 hi:∀ k,H k->w.heap.size<=k
 hr:H rb
 row:∃ ts:List Nat,wr.ownsRow 0 31 1 lv nds.length (ts.map fun a=>.pointer (some ⟨a,0,none⟩))/\ts.length=nds.length/\∀ (i a:Nat) (p:Nd),ts[i]?=some a->nds[i]?=some p->KT wr Dt a p
 mf:∀ p∈nds,MF zd6 2 p
 dt:∀ k,Dt k->H k/\¬k=rb/\¬lv.ownBlock=some k
 lb:∀ k,lv.ownBlock=some k->H k/\¬k=rb
theorem MI.row_ext{S:Nat->Prop}(h:MI w wr sb rb sa n cap k g H Dt lv ms nds)(hx:q9 S wr w')(hS:∀ k,H k->¬k=rb->¬S k):∃ ts:List Nat,w'.ownsRow 0 31 1 lv nds.length (ts.map fun a=>.pointer (some ⟨a,0,none⟩))/\ts.length=nds.length/\∀ (i a:Nat) (p:Nd),ts[i]?=some a->nds[i]?=some p->KT w' Dt a p:=by obtain⟨ts,h1,h2,h3⟩:=h.row;exact⟨ts,z7 h1 hx (fun k hk=>hS k (h.lb k hk).1 (h.lb k hk).2),h2,fun i a p ha hp=>(h3 i a p ha hp).ext hx (fun k _ e=>hS k (h.dt k e).1 (h.dt k e).2.1)⟩
theorem MI.made{k':Nat}(h:MI w wr sb rb sa n cap k g H Dt lv ms nds)(hx:q9 (fun i=>i=rb) wr w')(h3:RW w' rb sa n cap k' g):MI w w' sb rb sa n cap k' g (fun i=>H i\/(wr.heap.size<=i/\i<w'.heap.size)) Dt lv ms nds :=
 ⟨h.ks.more hx (fun i e=>by rw[e];exact h.hr) h.hi (fun i e=>e),h3,fun i e=>e.elim (h.hi i) (fun e=>Nat.le_trans h.ks.1.size e.1),.inl h.hr,h.row_ext hx (fun i _ hne e=>hne e),h.mf,fun i e=>⟨.inl (h.dt i e).1,(h.dt i e).2⟩,fun i e=>⟨.inl (h.lb i e).1,(h.lb i e).2⟩⟩
theorem MI.quiet(h:MI w wr sb rb sa n cap k g H Dt lv ms nds)(hx:q9 (fun _=>False) wr w'):MI w w' sb rb sa n cap k g H Dt lv ms nds :=
 ⟨h.ks.quiet hx,h.raw.ext hx (fun f=>f) (fun _ _ _ _ f=>f),h.hi,h.hr,h.row_ext hx (fun _ _ _ f=>f),h.mf,h.dt,h.lb⟩
theorem MI.kp{ms':List Nd}(h:MI w wr sb rb sa n cap k g H Dt lv ms nds)(hp:KP w H wr sb zd6 (fr0 ms') 0 w')(hg:zZ8 w sa n g):MI w w' sb rb sa n cap k g H Dt lv ms' nds :=
 ⟨hp.1,⟨(hp.2.block _ (z8 h.raw.blk) (fun f=>f.2 h.hr)).trans h.raw.blk,h.raw.few,hg.ext hp.1.1 (fun _ _ _ _ f=>f),h.raw.off⟩,h.hi,h.hr,h.row_ext hp.2 (fun _ e _ f=>f.2 e),h.mf,h.dt,h.lb⟩
theorem MI.app{w6:World}{v':Value}{o:Obj}{t:Nat}{nd:Nd}{Dn:Nat->Prop}(h:MI w wr sb rb sa n cap k g H Dt lv ms nds)(kt:KT wr Dn t nd)(hm:MF zd6 2 nd)(hd:∀ k,Dn k->H k/\¬k=rb/\¬lv.ownBlock=some k)
  {ts:List Nat} (h2:ts.length=nds.length) (h3:∀ (i a:Nat) (p:Nd),ts[i]?=some a->nds[i]?=some p->KT wr Dt a p)
  (hown:w6.ownsRow 0 31 1 v' (nds.length+1) ((ts.map fun a=>.pointer (some ⟨a,0,none⟩))++[.pointer (some ⟨t,0,none⟩)])) (hgrow:(wr.alloc o).grownBy w6 lv.ownBlock) (hat:v'.ownBlock=lv.ownBlock\/v'.ownBlock=some (wr.heap.size+1)) (hg:zZ8 w sa n g):
  MI w w6 sb rb sa n cap k g (fun i=>H i\/(wr.heap.size<=i/\i<w6.heap.size)) (fun i=>Dt i\/Dn i) v' ms (nds++[nd]):=by
 have hx:q9 (fun k=>lv.ownBlock=some k) wr w6:=(((q9.refl (fun _=>False) wr).alloc o).mono (fun _ _ f=>f.elim)).grown hgrow (fun k hk _=>hk);have hrb:rb<wr.heap.size:=z8 h.raw.blk;have hvb:∀ k,v'.ownBlock=some k->lv.ownBlock=some k\/(wr.heap.size<=k/\k<w6.heap.size):=by
  intro i e;rcases hat with e2|e2
  ·rw[e2] at e;exact .inl e
  ·refine .inr ⟨?_,(hown.lt i e).2⟩;rw[e2] at e;simp at e;omega
 have hgl:∀ i,H i->i<wr.heap.size:=h.ks.2.1;have hdt:∀ i,Dt i\/Dn i->H i/\¬i=rb/\¬lv.ownBlock=some i:=fun i e=>e.elim (h.dt i) (hd i)
 refine⟨h.ks.more hx (fun i e=>(h.lb i e).1) h.hi (fun i e=>e),h.raw.ext hx (fun e=>(h.lb _ e).2 rfl) (fun b off hn0 e f=>?_),fun i e=>e.elim (h.hi i) (fun e=>Nat.le_trans h.ks.1.size e.1),.inl h.hr,⟨ts++[t],?_,by simp[h2],fun i a p ha hp=>?_⟩,fun p hp=>?_,fun i e=>⟨.inl (hdt i e).1,(hdt i e).2.1,fun f=>?_⟩,fun i e=>?_⟩
 ·obtain⟨b',off',e',hb',_⟩:=hg 0 hn0;have hb:=h.hi b (h.lb b f).1;cases e.symm.trans e';omega
 ·rw[List.map_append,List.length_append];exact hown
 ·by_cases hi:i<nds.length
  ·rw[List.getElem?_append_left (by omega)] at ha;rw[List.getElem?_append_left hi] at hp;exact((h3 i a p ha hp).ext hx (fun q _ e=>(h.dt q e).2.2)).mono (fun q _ e=>.inl e)
  ·have hl:=(List.getElem?_eq_some_iff.1 hp).1;simp at hl;obtain rfl:i=nds.length:=by omega
   rw[List.getElem?_append_right (by omega),h2] at ha;rw[List.getElem?_append_right (Nat.le_refl _)] at hp;simp at ha hp;subst ha hp;exact(kt.ext hx (fun q _ e=>(hd q e).2.2)).mono (fun q _ e=>.inr e)
 ·rcases List.mem_append.1 hp with hp|hp
  ·exact h.mf p hp
  ·simp at hp;rw[hp];exact hm
 ·rcases hvb i f with e2|e2
  ·exact(hdt i e).2.2 e2
  ·have:=hgl i (hdt i e).1;omega
 ·rcases hvb i e with e2|e2
  ·exact⟨.inl (h.lb i e2).1,(h.lb i e2).2⟩
  ·exact⟨.inr e2,by omega⟩
theorem MI.tr(h:MI w wr sb rb sa n cap k g H Dt lv ms nds):TR wr (fun i=>H i/\¬i=rb) lv nds:=by obtain⟨ts,h1,h2,h3⟩:=h.row;exact⟨⟨ts,h1,h2,fun i a p ha hp=>(h3 i a p ha hp).mono (fun q _ e=>⟨(h.dt q e).1,(h.dt q e).2.1⟩)⟩,h.mf,fun q e=>h.lb q e⟩
end
theorem jv8:zA8 zd6:=by intro x hx;simp[zd6] at hx;rcases hx with rfl|rfl|rfl|rfl|rfl<;>decide
theorem qj5(w:World)(sa:Option Addr)(n cap:Nat)(g:Nat->Int)(many:Int)(hmany:-9223372036854775808<=many/\many<=9223372036854775807)(hn:n<=maxLen)(hg:zZ8 w sa n g)(hhd:U4 w)(hpt:K9 w):
  Calls prog 10 #[.slice sa n cap,.int .i64 many] w fun e w'=>e=.returned (.bool true)/\q9 (fun _=>False) w w':=by
 have HHD:=q8 hhd;have HPT:=q8 hpt;have HG:=q8 hg;have HN:=q8 hn;have HC1:=q8 (zN4 w hhd hpt);have hp6:=qj4 many 6 (by omega);obtain⟨m,hm⟩:∃ m:Nat,zG3 many 6=m:=⟨(zG3 many 6).toNat,by omega⟩;have hm6:m<6:=by omega
 have HM:=q8 hm;clear hhd hpt hg hn hp6 hm;go_enter func10,ntmps10;go_wp2_with fail;refine HC1.out.mono ?_;rintro e w1 ⟨sb,rfl,h1⟩;have H1:=q8 h1;have HR:=q8 (jd9 (cap:=cap) HG.out h1.1);clear h1 HC1;obtain⟨W1,hW1⟩:∃ W,w1.alloc (.cells #[.slice sa n cap,.int .i64 0] 30)=W:=⟨_,rfl⟩;have HXA:Hid (q9 (fun _=>False) w1 W1):=by rw[<- hW1];exact(q9.refl (fun _=>False) w1).alloc _
 have hsz:W1.heap.size=w1.heap.size+1:=by rw[<- hW1];simp
 rw[hW1] at HR;have HMI:Hid (MI w W1 sb w1.heap.size sa n cap 0 g (fun i=>i=w1.heap.size) (fun _=>False) (.slice none 0 0) [] []) :=
  ⟨H1.out.guard HXA.out (fun k hk=>.inr (by omega)),HR.out,fun k e=>by rw[e];exact H1.out.1.size,rfl,⟨[],World.ownsRow_nil _ _ _ _,rfl,by simp⟩,by simp,fun _ f=>f.elim,fun k e=>by simp[Value.ownBlock] at e⟩
 go_wp2_with fail;obtain⟨rb,hrb⟩:∃ rb,w1.heap.size=rb:=⟨_,rfl⟩;rw[hrb] at HMI hsz ⊢;clear hW1 HR H1 HXA;refine(qj7 many 6 hmany (by omega)).mono ?_;rintro e w2 ⟨rfl,hx2⟩;rw[HM.out];have HMI2:=q8 (HMI.out.quiet hx2);clear hx2 HMI HM;have hi0:=zV3;cases hi:prog.info? 31 with
 | none=>rw[hi] at hi0;simp at hi0
 | some i0=>
 rw[hi] at hi0;simp only[Option.map_some,Option.some.injEq,Prod.mk.injEq] at hi0;obtain⟨hz0,hz1,hz2⟩:=hi0;have HI:=q8 (And.intro hi (And.intro hz0 (And.intro hz1 hz2)));clear hi hz0 hz1 hz2;go_wp2_with fail
 go_loopw [7,8] (fun vl vn wr=>∃ (j:Nat) (H Dt:Nat->Prop) (nds:List Nd) (k:Nat),vn=.int .i64 j/\nds.length+j<=6/\MI w wr sb rb sa n cap k g H Dt vl nds nds) (fun _ vn _=>(intOf vn).toNat)
 case atStart=>exact⟨m+1,_,_,[],0,by congr 1;omega,by simp;omega,HMI2.out⟩
 case round=>
  clear HMI2;obtain⟨j,H,Dt,nds,k,rfl,hj,hM⟩:=hrel;have HMI:=q8 hM;obtain⟨la,lc,hvl⟩:∃ la lc,u7=.slice la nds.length lc:=by obtain⟨ts,h1,_⟩:=hM.row;exact Q0 h1
  subst hvl;have hrbs:rb<wr.heap.size:=z8 hM.raw.blk;clear hM;by_cases hj0:0<j
  ·have HC2:=q8 (zV1 jt5 HN.out 2 (by omega) wr k HMI.out.raw);have hj1:(0:Int)<(j:Int):=by omega
   go_wp2_with fail;refine HC2.out.mono ?_;rintro e w3 ⟨t,nd,k3,rfl,kt,hmf,h3,hx3⟩;have HM3:=q8 (HMI.out.made hx3 h3);have HMF:=q8 hmf;have hlen:(j9 nd).length<=129:=hmf.fm.2;have KT3:Hid (KT w3 (fun i=>wr.heap.size<=i/\i<w3.heap.size) t nd):=kt.mono (fun i hi e=>⟨e,hi⟩);have HC3:=q8 (zN0 kt w3 (q9.refl _ _) (by omega));clear kt hmf h3 hx3 HC2;go_wp2_with fail;refine HC3.out.mono ?_;rintro e w4 ⟨s,rfl,hs,hx4⟩;have HM4:=q8 (HM3.out.quiet hx4);have KT4:Hid (KT w4 (fun i=>wr.heap.size<=i/\i<w3.heap.size) t nd):=KT3.out.ext hx4 (fun _ _ _ f=>f);have HC4:=q8 (je0 HM4.out.ks hs (HMF.out.fm.1 0 (by omega)) (by omega) HHD.out);clear hs hx4 HC3;go_wp2_with fail;refine HC4.out.mono ?_;rintro e w5 ⟨i,o,rfl,hio,h5⟩;rcases hio with⟨rfl,rfl⟩|⟨rfl,rfl⟩
   ·have e5:fr0 nds++zE7 (some nd) ((0:Nat):Int)=fr0 (nds++[nd]):=by rw[qA1];rfl
    rw[e5] at h5;have HM5:=q8 (HM4.out.kp h5 HG.out);have KT5:Hid (KT w5 (fun i=>wr.heap.size<=i/\i<w3.heap.size) t nd):=KT4.out.ext h5.2 (fun i _ e f=>f.2 (.inr e));obtain⟨ts,r1,r2,r3⟩:=HM5.out.row;have HR1:=q8 r1;have HR2:=q8 r2;have HR3:=q8 r3;obtain⟨hi,hz0,hz1,hz2⟩:=HI.out;clear h5 HC4 e5 r1 r2 r3;go_wp2_with (at_builtin;refine wpList_append_own_at _ rfl _ _ 49 rfl 0 31 i0 (.pointer none) 1 8 underlying49 hi hz0 hz1 hz2 rfl (by decide) _ _ _ rfl (HR1.out.alloc _) ⟨w5.heap.size,0,none⟩ 1 1 [.pointer (some ⟨t,0,none⟩)] rfl rfl ?c1 ?c2 ?c3 ?c4 ?c5 ?_)
    case c1=>
     intro q u hq
     match q,hq with
     | 0,hq=>simp at hq;subst hq;simp[Addr.add]
    case c2=>intro u hu;simp at hu;subst hu;rfl
    case c3=>unfold maxLen;omega
    case c4=>omega
    case c5=>omega
    intro v' w6 hown' hgrow _ hat;have HM6:=q8 (HM5.out.app KT5.out HMF.out (fun q e=>⟨.inr e,by omega,fun f=>by have:=HMI.out.ks.2.1 q (HMI.out.lb q f).1;omega⟩) HR2.out HR3.out hown' hgrow hat HG.out);obtain⟨a2,cc2,rfl⟩:=Q0 hown';clear hown' hgrow hat hi hz0 hz1 hz2;go_wp2_with fail
    go_roundw
    case measure=>simp[intOf];omega
    case rel=>exact⟨j-1,_,_,nds++[nd],k3,by go_num,by simp;omega,HM6.out⟩
   ·have e5:fr0 nds++zE7 none ((0:Nat):Int)=fr0 nds:=by simp[zE7]
    rw[e5] at h5;have HM5:=q8 (HM4.out.kp h5 HG.out);clear h5 HC4 e5;go_wp2_with fail
    go_roundw
    case measure=>simp[intOf];omega
    case rel=>exact⟨j-1,_,_,nds,k3,by go_num,by omega,HM5.out⟩
  ·have hj1:¬(0:Int)<(j:Int):=by omega
   have hnl:nds.length<=6:=by omega
   have HC2:=q8 (zE0 (ga:=sa) (cap:=cap) (g:=g) jt5 HN.out 3 (by omega) wr k HMI.out.raw);go_wp2_with fail;refine HC2.out.mono ?_;rintro e w3 ⟨tm,ndm,k3,rfl,kt,htm,h3,hx3⟩;have HM3:=q8 (HMI.out.made hx3 h3);have KT3:Hid (KT w3 (fun i=>wr.heap.size<=i/\i<w3.heap.size) tm ndm):=kt.mono (fun i hi e=>⟨e,hi⟩);have HRT:Hid (RT zd6 0 ndm):=htm.1 0 (by omega);have hlm:(j9 ndm).length<=600:=Nat.le_trans htm.2 (by decide);have HC3:=q8 (qz9 HM3.out.ks HPT.out);clear kt htm h3 hx3 HC2;go_wp2_with fail;refine HC3.out.mono ?_;rintro e w4 ⟨can,rfl,hcan,h4,_⟩;have HM4:=q8 (HM3.out.kp h4 HG.out);have KT4:Hid (KT w4 (fun i=>wr.heap.size<=i/\i<w3.heap.size) tm ndm):=KT3.out.ext h4.2 (fun i _ e f=>f.2 (.inr e));have HC4:=q8 (qz9 HM4.out.ks HPT.out);clear h4 HC3;go_wp2_with fail;refine HC4.out.mono ?_;rintro e w5 ⟨again,rfl,hagain,h5,hf5⟩;obtain rfl:again=can:=by rw[Bool.eq_iff_iff];exact hagain.trans hcan.symm
   have HM5:=q8 (HM4.out.kp h5 HG.out);have KT5:Hid (KT w5 (fun i=>wr.heap.size<=i/\i<w3.heap.size) tm ndm):=KT4.out.ext h5.2 (fun i _ e f=>f.2 (.inr e));have HF5:=q8 hf5;have HX5:=q8 h5.1.1;rw[zl4] at hcan;have HCAN:=q8 hcan;clear h5 hf5 hagain hcan HC4;cases again with
   | false=>
    have hns:¬Sat nds:=fun e=>by have:=HCAN.out.2 e;cases this
    have hfw:=HF5.out.few;rw[zl4] at hfw;have HC5:=q8 (qt2 (L:=fr0 nds) (HF5.out.core (HPT.out.ext HX5.out (fun f=>f)) (by rw[zl4];exact hns)) (zl4 nds) hfw HM5.out.tr hnl (HHD.out.ext HX5.out (fun f=>f)) (HPT.out.ext HX5.out (fun f=>f)));clear hns hfw;go_wp2_with fail;refine HC5.out.mono ?_;rintro e w6 ⟨rfl,hx6⟩;have HX6:=q8 (HX5.out.trans hx6);clear hx6 HC5;go_wp2_with fail;go_ret;exact⟨rfl,HX6.out⟩
   | true=>
    obtain⟨I,hI,hsm,hV⟩:=HF5.out.val (HHD.out.ext HX5.out (fun f=>f));rw[zl4] at hI;have HII:=q8 hI;have HMV:Hid (MV (w5.alloc (.cells #[.pointer (some ⟨sb,0,none⟩),.bool false] 53)) w5.heap.size sb zd6 I):=⟨heap_alloc_new w5 _,hV.ext ((q9.refl (fun _=>False) w5).alloc _),jv8,hsm⟩;clear hI hsm hV;go_wp2_with fail;obtain⟨W8,hW8⟩:∃ W8,w5.alloc (.cells #[.pointer (some ⟨sb,0,none⟩),.bool false] 53)=W8:=⟨_,rfl⟩;have HX8:Hid (q9 (fun _=>False) w5 W8):=by rw[<- hW8];exact(q9.refl (fun _=>False) w5).alloc _
    rw[hW8] at HMV ⊢;clear hW8;obtain⟨gb,hgb⟩:∃ gb,w5.heap.size=gb:=⟨_,rfl⟩;rw[hgb] at HMV ⊢;clear hgb;have HXZ:=q8 (q9.refl (fun _=>False) W8);obtain⟨w9,hw9⟩:∃ w9,w9=wr:=⟨_,rfl⟩;rw[<- hw9] at HMI hrbs KT3 KT4 KT5;clear hw9
    go_loopw [15] (fun vi wr=>∃ j:Nat,j<=nds.length/\vi=.int .i64 j/\q9 (fun _=>False) W8 wr) (fun vi _=>nds.length-(intOf vi).toNat)
    case atStart=>exact⟨0,Nat.zero_le _,rfl,HXZ.out⟩
    case round=>
     clear HXZ;obtain⟨j2,hj2,rfl,hx9⟩:=hrel;have HX9:=q8 (HX8.out.trans hx9);have HMV9:=q8 (HMV.out.ext hx9);have HXR:=q8 hx9;clear hx9;by_cases hlt:j2<nds.length
     ·obtain⟨p,hp⟩:∃ p,nds[j2]?=some p:=⟨_,List.getElem?_eq_getElem hlt⟩;obtain⟨q,lcap,a,hlv,hlc,y0,kt,hfm,hmf⟩:=(HM5.out.tr.ext HX9.out (fun _ _ f=>f)).at hp;simp only[Value.slice.injEq,true_and] at hlv;obtain⟨rfl,rfl⟩:=hlv;have hl600:(j9 p).length<=600:=Nat.le_trans hfm.2 (by decide);have htr:=HII.out p (List.mem_of_getElem? hp);have hc:=qI3 hmf wr _ a HMV9.out kt hl600;rw[htr] at hc;have HC6:=q8 hc;have KTP:=q8 kt;have HMF:=q8 hmf;have Y0:=q8 y0;obtain⟨ts,r1,_⟩:=HM5.out.row;obtain⟨q',c',e',hq',_⟩:=za6 r1 (by omega);simp only[Value.slice.injEq,Option.some.injEq,Addr.mk.injEq,true_and,and_true] at e';have hql:q<wr.heap.size:=by rw[e'.1];exact Nat.lt_of_lt_of_le hq' HX9.out.size
      clear hp kt hfm hmf htr hc r1 hq' e';go_wp2_with fail;refine HC6.out.mono ?_;rintro e w10 ⟨rfl,hx10⟩;have y1:=(hx10.cell (p:=⟨q,j2,none⟩) hql (fun f=>f)).trans Y0.out;have HC7:=q8 (qs8 HMF.out w10 _ a (HMV9.out.ext hx10) (KTP.out.ext hx10 (fun _ _ _ f=>f)) hl600);have HX10:=q8 hx10;clear hx10 y0 HC6;go_wp2_with fail;refine HC7.out.mono ?_;rintro e w11 ⟨rfl,hx11⟩;have HX11:=q8 (HX10.out.trans hx11);have HXW:=q8 (HXR.out.trans HX11.out);have m1:=z6 (HMV9.out.ext HX11.out).blk 1;clear hx11 y1 HC7;go_wp2_with fail
      go_roundw
      case measure=>simp[intOf];omega
      case rel=>exact⟨j2+1,by omega,by go_num,HXW.out⟩
     ·have hge:¬(j2:Int)<(nds.length:Int):=by omega
      have HC6:=q8 (zj9 HRT.out HRT.out wr _ tm HMV9.out (KT5.out.ext HX9.out (fun _ _ _ f=>f)) hlm);go_wp2_with fail;refine HC6.out.mono ?_;rintro e w10 ⟨rfl,hx10⟩;have m1:=z6 (HMV9.out.ext hx10).blk 1;have HX10:=q8 ((HX5.out.trans HX9.out).trans hx10);clear hx10 HC6;go_wp2_with fail;go_ret;exact⟨rfl,HX10.out⟩
end Go.Proofs.YtegbdaffhpiacaaGreatDoor
