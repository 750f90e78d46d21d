/- A part of the proof. -/
import Derived.Test.YtegbdaffhpiacaaGreatDoorMod27
import Derived.Deep.AppendLies
import Derived.OwnWalk
set_option maxRecDepth 100000
set_option maxHeartbeats 2000000
namespace Go.Proofs.YtegbdaffhpiacaaGreatDoor
open Go.Proofs.Tryz hiding parts
section
open Go.RowKit Ar
theorem jr0:(prog.info? 3).map (fun i=>(i.zero,i.size,i.bytes))=some (some (.int .i64 0),1,8):=by kernel_rfl
section
variable{B:Nat}{w w':World}{sb hb g:Nat}{c:ThV}{TK:List Z3}{AK:List PA}{tw:List (Nat × Nat)}{tv lv:Value}{tr:List St}{As:List (PA × Bool)}{ls:List (List (BitVec 64))}{TT:List W9}
def zq2(l:List Nat):List Value:=l.map (fun a:Nat=>.int .i64 (a:Int))
theorem qm0(l:List Nat)(a:Nat):zq2 (l++[a])=zq2 l++[.int .i64 (a:Int)]:=by simp[zq2]
theorem zQ6(h:SrR B w sb hb g c TK AK tw tv lv tr As ls TT)(hl:tr.length<=1000)(hA:AK.length<=16):
  Calls prog 175 #[.pointer (some ⟨sb,0,none⟩)] w fun e w'=>∃ ov,e=.returned ov/\q9 (fun _=>False) w w'/\w'.ownsRow 0 3 1 ov (opn tr AK.length).length (zq2 (opn tr AK.length)):=by
 have kb:=h.blk;obtain⟨ta,tc,htv⟩:=Q0 h.row;rw[htv] at kb;have c1:=z6 kb 1;have hbl:=z8 kb;have H:=q8 h;have KB:=q8 kb;obtain⟨i0,hi,hz0,hz1,hz2⟩:=info_parts jr0;clear h kb;go_enter func175,ntmps175;go_wp2_with fail
 go_loopw [9,3] (fun i ov wr=>∃ j:Nat,j<=AK.length/\i=.int .i64 j/\q9 (fun _=>False) w wr/\wr.ownsRow 0 3 1 ov (opn tr j).length (zq2 (opn tr j))/\∀ k,ov.ownBlock=some k->w.heap.size<=k) (fun i _ _=>AK.length-(intOf i).toNat)
 case atStart=>exact⟨0,Nat.zero_le _,rfl,q9.refl _ _,⟨by simp[qW7,zq2],.inl ⟨rfl,rfl⟩⟩,by simp[Value.ownBlock]⟩
 case round=>
  obtain⟨j,hj,rfl,hxr,hov,hob⟩:=hrel;have HXR:=q8 hxr;have HOV:=q8 hov;have HOB:=q8 hob;have hR:=H.out.ext hxr;have kbr:=hR.blk;rw[htv] at kbr;have q2:=z6 kbr 2;have hblr:=z8 kbr;obtain⟨oa,oc,ho⟩:=Q0 hov;subst ho;clear hxr hov hob kbr;by_cases hlt:j<AK.length
  ·obtain⟨V,hV⟩:∃ V,wr.alloc (.cells #[.int .i64 j] 3)=V:=⟨_,rfl⟩;have hxV:q9 (fun _=>False) wr V:=by rw[<- hV];exact(q9.refl _ wr).alloc _
   have kV:V.heap[wr.heap.size]?=some (.cells #[.int .i64 j] 3):=by rw[<- hV];exact heap_alloc_new wr _
   have HC:=q8 (qX0 (hR.ext hxV) hl kV);have KV:=q8 kV;have HXV:=q8 hxV;have HVE:=q8 hV;rw[htv] at HC;clear hV kV hxV hR;go_wp2_with fail;rw[HVE.out];refine HC.out.mono ?_;rintro e w2 ⟨hx2,r,rfl,hr⟩;have HR2:=q8 hr;have kV2:=(hx2.block _ (z8 KV.out) (fun f=>f)).trans KV.out;have v0:=z6 kV2 0;have hvl:=z8 kV2;have hxr2:q9 (fun _=>False) wr w2:=HXV.out.trans hx2;have HXR2:=q8 hxr2;have HO2:=q8 (z7 HOV.out hxr2 (fun _ _ f=>f));clear hr hx2 kV2 hxr2 HC;cases r with
   | true=>
    have hin:=HR2.out.1 rfl;have eo:opn tr (j+1)=opn tr j:=by rw[ql7,if_pos hin]
    have HEO:=q8 eo;clear hin eo;go_wp2_with fail
    go_roundw
    case measure=>simp[intOf];omega
    case rel=>refine⟨j+1,by omega,by go_num,HXR.out.trans HXR2.out,?_,HOB.out⟩;rw[HEO.out];exact HO2.out
   | false=>
    have hin:j ∉ tr.map (·.q):=fun e=>by have:=HR2.out.2 e;simp at this
    have eo:opn tr (j+1)=opn tr j++[j]:=by rw[ql7,if_neg hin]
    have HEO:=q8 eo;have hol:=qc1 tr j;clear hin eo;go_wp2_with (at_builtin;refine wpList_append_lies _ rfl _ _ 25 rfl 0 3 i0 (.int .i64 0) 1 8 underlying25 hi hz0 hz1 hz2 rfl (by decide) (.slice oa (opn tr j).length oc) (opn tr j).length (zq2 (opn tr j)) rfl (HO2.out.alloc _) ⟨w2.heap.size,0,none⟩ 1 1 [.int .i64 j] rfl rfl ?c1 ?c2 (by omega) ?c3 ?c4 (Nat.zero_le _) (w2.heap.size+1) ?c5 ?_)
    case c1=>exact World.news_of_block (cs:=#[.int .i64 j]) (t:=3) (fr:=(0,0)) (heap_alloc_new _ _)
    case c2=>intro u2 hu2;simp at hu2;subst hu2;rfl
    case c3=>unfold maxLen;omega
    case c4=>omega
    case c5=>simp
    intro g7 cap7 w7 hown7 hgr7 hat7 hlt7;have HF:=q8 (And.intro hown7 (And.intro hgr7 hat7));clear hown7 hgr7 hat7;go_wp2_with fail
    go_roundw
    case measure=>simp[intOf];omega
    case rel=>
     obtain⟨hown7,hgr7,hat7⟩:=HF.out;have hx7:q9 (fun _=>False) w w7:=((HXR.out.trans HXR2.out).alloc _).grown hgr7 (fun k hk hlt=>by have:=HOB.out k hk;omega);refine⟨j+1,by omega,by go_num,hx7,?_,fun k hk=>?_⟩
     ·rw[HEO.out,qm0,List.length_append,List.length_singleton];exact hown7
     ·simp[Value.ownBlock] at hk;subst hk;rcases hat7 with e|e
      ·exact HOB.out _ e
      ·have h1:=HXR.out.size;have h2:=HXR2.out.size;omega
  ·have hjl:j=AK.length:=by omega
   subst hjl;clear hR;go_wp2_with fail;go_ret;exact⟨_,rfl,HXR.out,HOV.out⟩
end
section
variable{B:Nat}{w w':World}{sb hb g:Nat}{c:ThV}{TK:List Z3}{AK:List PA}{tw:List (Nat × Nat)}{tv lv:Value}{tr:List St}{As:List (PA × Bool)}{ls:List (List (BitVec 64))}{TT:List W9}
structure jj4(n:Nat)(tr:List St)(last:List (BitVec 64))(s:St):Prop where
 tn:s.turned=false
 bl:s.blame=M3.none
 lt:s.q<n
 op:s.q ∉ tr.map (·.q)
 ex:∃ x,x<64*last.length/\Z9 last x=true/\x.testBit s.q=s.yes
theorem zX7{l:List (BitVec 64)}{a y:Nat}(hy:y=0↔∀ x,x<64*l.length->Z9 l x=true->x.testBit a=false)(h:¬y=0):∃ x,x<64*l.length/\Z9 l x=true/\x.testBit a=true:=by
 refine Classical.byContradiction fun hno=>h (hy.2 fun x hx hh=>?_)
 cases e:x.testBit a with
 | false=>rfl
 | true=>exact absurd ⟨x,hx,hh,e⟩ hno
theorem qm1{l:List (BitVec 64)}{a n:Nat}(hn:n=0↔∀ x,x<64*l.length->Z9 l x=true->x.testBit a=true)(h:¬n=0):∃ x,x<64*l.length/\Z9 l x=true/\x.testBit a=false:=by
 refine Classical.byContradiction fun hno=>h (hn.2 fun x hx hh=>?_)
 cases e:x.testBit a with
 | true=>rfl
 | false=>exact absurd ⟨x,hx,hh,e⟩ hno
theorem zQ7{l:List (BitVec 64)}{a y n:Nat}(hne:∃ x,x<64*l.length/\Z9 l x=true)(hy:y=0↔∀ x,x<64*l.length->Z9 l x=true->x.testBit a=false)(hn:n=0↔∀ x,x<64*l.length->Z9 l x=true->x.testBit a=true):¬(y=0/\n=0):=by rintro⟨h1,h2⟩;obtain⟨x,hx,hh⟩:=hne;have e1:=hy.1 h1 x hx hh;have e2:=hn.1 h2 x hx hh;rw[e1] at e2;simp at e2
theorem zv1(w:World)(b:Nat)(u0 u1 u2 u3 u4 u5:Value):q9 (fun k=>k=b) w ((((((w.setCell ⟨b,0,none⟩ u0).setCell ⟨b,1,none⟩ u1).setCell ⟨b,2,none⟩ u2).setCell ⟨b,3,none⟩ u3).setCell ⟨b,4,none⟩ u4).setCell ⟨b,5,none⟩ u5) :=
 ((((((q9.refl (fun k=>k=b) w).setCell (p:=⟨b,0,none⟩) (fun _=>rfl) _).setCell (p:=⟨b,1,none⟩) (fun _=>rfl) _).setCell (p:=⟨b,2,none⟩) (fun _=>rfl) _).setCell (p:=⟨b,3,none⟩) (fun _=>rfl) _).setCell (p:=⟨b,4,none⟩) (fun _=>rfl) _).setCell (p:=⟨b,5,none⟩) (fun _=>rfl) _
theorem qc7{last:List (BitVec 64)}(h:SrR B w sb hb g c TK AK tw tv lv tr As ls TT)(hl:tr.length<=1000)(hA:AK.length<=16)(hlast:ls[ls.length-1]?=some last)(hln:ls.length<=1000)(hne:∃ x,x<64*last.length/\Z9 last x=true):
  Calls prog 131 #[.pointer (some ⟨sb,0,none⟩)] w fun e w'=>∃ s some,e=.returned (.tuple #[zh4 s,.bool some])/\q9 (fun _=>False) w w'/\(some=true->jj4 AK.length tr last s):=by
 obtain⟨V,hV⟩:∃ V,w.alloc (.cells #[.int .i64 0,.bool false,.bool false,.int .u64 0,.int .u64 0,.int .u64 0] 250)=V:=⟨_,rfl⟩;have hxV:q9 (fun _=>False) w V:=by rw[<- hV];exact(q9.refl _ w).alloc _
 have kV:V.heap[w.heap.size]?=some (.cells #[.int .i64 0,.bool false,.bool false,.int .u64 0,.int .u64 0,.int .u64 0] 250):=by rw[<- hV];exact heap_alloc_new w _
 have HO:=q8 (zQ6 (h.ext hxV) hl hA);have H:=q8 h;have HVE:=q8 hV;have HXV:=q8 hxV;have KV:=q8 kV;have HNE:=q8 hne;clear h hV hxV kV hne;go_enter func131,ntmps131;go_wp2_with fail;rw[HVE.out];refine HO.out.mono ?_;rintro e w1 ⟨ov,rfl,hx1,ho1⟩;have HX1:=q8 hx1;have HO1:=q8 ho1;obtain⟨oa,oc,ho⟩:=Q0 ho1;subst ho;have hol:=qc1 tr AK.length;clear hx1 ho1 HO;go_wp2_with fail
 go_loopw [11] (fun i wr=>∃ j:Nat,j<=(opn tr AK.length).length/\i=.int .i64 j/\q9 (fun _=>False) w1 wr) (fun i _=>(opn tr AK.length).length-(intOf i).toNat)
 case atStart=>exact⟨0,Nat.zero_le _,rfl,q9.refl _ _⟩
 case round=>
  obtain⟨j,hj,rfl,hxr⟩:=hrel;have hxw:q9 (fun _=>False) w wr:=(HXV.out.trans HX1.out).trans hxr;have kVr:=((HX1.out.trans hxr).block _ (z8 KV.out) (fun f=>f)).trans KV.out;by_cases hlt:j<(opn tr AK.length).length
  ·obtain⟨a,haj⟩:∃ a,(opn tr AK.length)[j]?=some a:=⟨_,List.getElem?_eq_getElem hlt⟩;have hao:=qc0.1 (List.mem_of_getElem? haj);have HAO:=q8 hao;have ho:=z7 HO1.out hxr (fun _ _ f=>f);obtain⟨og,rfl,hogl⟩:∃ og,oa=some ⟨og,0,none⟩/\og<wr.heap.size:=by
    rcases ho.2 with⟨_,e0⟩|⟨g',cap,cur,hv,_,hh,_⟩
    ·omega
    ·simp at hv;exact⟨g',hv.1,z8 hh⟩
   have x0:wr.cell? ⟨og,j,none⟩=some (.int .i64 (a:Int)):=(ho.cellAt j (by omega)).trans (by simp[zq2,haj]);have HWO:=q8 (zq3 (H.out.ext hxw) hlast hln);have hk1024:2^(AK.length-6)<=1024:=Nat.pow_le_pow_right (n:=2) (by decide) (by omega:AK.length-6<=10);have hpat:=(H.out.ext hxw).pat.ext ((q9.refl (fun _=>False) wr).drew) (fun f=>f);have HP:=q8 hpat;have ha16:a<16:=by omega
   have e0:=z6 kVr 0;have e1:=z6 kVr 1;have e2:=z6 kVr 2;have e3:=z6 kVr 3;have e4:=z6 kVr 4;have e5:=z6 kVr 5;have f0:=Q8 kVr 0;have f1:=Q8 kVr 1;have f2:=Q8 kVr 2;have f3:=Q8 kVr 3;have f4:=Q8 kVr 4;have f5:=Q8 kVr 5;have hbl:=z8 kVr;have HXD:=q8 hxw;have HXR:=q8 hxr;clear hxr hxw kVr haj hao ho hpat;go_wp2_with fail;refine HWO.out.mono ?_;rintro e w2 ⟨b,v,rfl,hW,hwl,rfl⟩;have HV:=q8 (zU0 a (hW.ext ((q9.refl (fun _=>False) wr).drew) (fun f=>f)) (by omega) ha16 HP.out);clear hW HWO;go_wp2_with fail;refine HV.out.mono ?_;rintro e w3 ⟨rfl,y,n,rfl,hy,hn⟩;have HYN:=q8 (And.intro hy hn);have hsome:=zQ7 HNE.out hy hn;clear hy hn HV;by_cases hy0:y=0
   ·have hn0:¬n=0:=fun e=>hsome ⟨hy0,e⟩
    have hyi:((y:Int)==0)=true:=by simp[hy0]
    have hni:((n:Int)==0)=false:=by simp;omega
    have HN0:=q8 (qm1 HYN.out.2 hn0);clear hy0 hn0 hsome HYN;go_wp2_with fail;refine bodyPost_ret (v:=.tuple #[.agg #[.int .i64 a,.bool false,.bool false,.int .u64 0,.int .u64 0,.int .u64 0],.bool true]) (by simp[results,results131,go_sem,e0,e1,e2,e3,e4,e5]) rfl ⟨⟨a,false,false,M3.none⟩,true,rfl,?_,fun _=>⟨rfl,rfl,HAO.out.1,HAO.out.2,HN0.out⟩⟩;exact(HXD.out.trans' (zv1 _ _ _ _ _ _ _ _) (fun i hi e=>by have h1:i=w.heap.size:=e;omega)).drew
   ·by_cases hn0:n=0
    ·have hyi:((y:Int)==0)=false:=by simp;omega
     have hni:((n:Int)==0)=true:=by simp[hn0]
     have HN0:=q8 (zX7 HYN.out.1 hy0);clear hy0 hn0 hsome HYN;go_wp2_with fail;refine bodyPost_ret (v:=.tuple #[.agg #[.int .i64 a,.bool true,.bool false,.int .u64 0,.int .u64 0,.int .u64 0],.bool true]) (by simp[results,results131,go_sem,e0,e1,e2,e3,e4,e5]) rfl ⟨⟨a,true,false,M3.none⟩,true,rfl,?_,fun _=>⟨rfl,rfl,HAO.out.1,HAO.out.2,HN0.out⟩⟩;exact(HXD.out.trans' (zv1 _ _ _ _ _ _ _ _) (fun i hi e=>by have h1:i=w.heap.size:=e;omega)).drew
    ·have hyi:((y:Int)==0)=false:=by simp;omega
     have hni:((n:Int)==0)=false:=by simp;omega
     clear hy0 hn0 hsome HYN;go_wp2_with fail
     go_roundw
     case measure=>simp[intOf];omega
     case rel=>exact⟨j+1,by omega,by go_num,HXR.out.drew⟩
  ·have hjl:j=(opn tr AK.length).length:=by omega
   subst hjl;have z0:=z6 kVr 0;have z1:=z6 kVr 1;have z2:=z6 kVr 2;have z3:=z6 kVr 3;have z4:=z6 kVr 4;have z5:=z6 kVr 5;have f0:=Q8 kVr 0;have f1:=Q8 kVr 1;have f2:=Q8 kVr 2;have f3:=Q8 kVr 3;have f4:=Q8 kVr 4;have f5:=Q8 kVr 5;have hbl:=z8 kVr;have HXW:=q8 hxw;clear hxr kVr hxw;go_wp2_with fail;refine bodyPost_ret (v:=.tuple #[.agg #[.int .i64 0,.bool false,.bool false,.int .u64 0,.int .u64 0,.int .u64 0],.bool false]) (by simp[results,results131,go_sem,z0,z1,z2,z3,z4,z5]) rfl ⟨⟨0,false,false,M3.none⟩,false,rfl,?_,fun e=>by simp at e⟩;exact HXW.out.trans' (zv1 _ _ _ _ _ _ _ _) (fun i hi e=>by have h1:i=w.heap.size:=e;omega)
end
end
section
open Go.RowKit Ar
attribute [local go_sem] qd4 qw2
section
variable{B:Nat}{w w':World}{sb hb g:Nat}{c:ThV}{TK:List Z3}{AK:List PA}{tw:List (Nat × Nat)}{tv lv:Value}{tr:List St}{As:List (PA × Bool)}{ls:List (List (BitVec 64))}{TT:List W9}{X:W9}{F:Fx}
def ChC(w:World)(TK:List Z3)(AK:List PA)(tw:List (Nat × Nat))(tr:List St)(As:List (PA × Bool))(X:W9)(F:Fx)(last:List (BitVec 64))(e:Ending)(w':World):Prop :=
 ∃ s some,e=.returned (.tuple #[zh4 s,.bool some])/\q9 (fun _=>False) w w' /\
  (some=true->jj4 AK.length tr last s\/(s.yes=true/\s.turned=false/\s.blame=M3.none/\(∀ a,a<AK.length->a∈tr.map (·.q))/\∃ o p,s.q=AK.length+o*12+p/\o<TK.length/\p<TK.length/\gr F X.t o=gr F X.t p/\0<X.t.by_ p o)) /\
  (some=false->(∀ a,a<AK.length->a∈tr.map (·.q))/\(∀ x∈Y8 As,x.1.tr (gr F X.t)=x.2)/\∀ p∈tw,gr F X.t p.1=gr F X.t p.2\/(∃ q∈F.prs p,gr F X.t q.1≠gr F X.t q.2)\/∀ q∈F.prs p,X.t.by_ q.1 q.2<=0/\X.t.by_ q.2 q.1<=0)
theorem qc8{last:List (BitVec 64)}(h:SrR B w sb hb g c TK AK tw tv lv tr As ls (TT++[X]))(hl:tr.length<=1000)(hlast:ls[ls.length-1]?=some last)(hln:ls.length<=1000)(hne:∃ x,x<64*last.length/\Z9 last x=true)
  (hG:ThG F As X) (hPt:∀ y∈Y8 As,ze1 X.t y) (hF:qg2 F TK tw) (hfar:F.far<=100000) (hT:TK.length<=12) (hA:AK.length<=16) (htw:tw.length<=1000) (hTT:TT.length<=200) (hAs:As.length<=190) (hok:∀ x∈As,x.1.at_.Ok/\x.1.i<TK.length/\x.1.j<TK.length) (hbd:∀ x∈As,-1000<=x.1.b/\x.1.b<=1000):
  Calls prog 133 #[.pointer (some ⟨sb,0,none⟩)] w (ChC w TK AK tw tr As X F last):=by
 obtain⟨V,hV⟩:∃ V,w.alloc (.cells #[.int .i64 0,.bool false,.bool false,.int .u64 0,.int .u64 0,.int .u64 0] 250)=V:=⟨_,rfl⟩;have hxV:q9 (fun _=>False) w V:=by rw[<- hV];exact(q9.refl _ w).alloc _
 have kV:V.heap[w.heap.size]?=some (.cells #[.int .i64 0,.bool false,.bool false,.int .u64 0,.int .u64 0,.int .u64 0] 250):=by rw[<- hV];exact heap_alloc_new w _
 have HO:=q8 (zQ6 (h.ext hxV) hl hA);have HSP:Hid (∀ W,q9 (fun _=>False) w W->Calls prog 257 #[.pointer (some ⟨hb,0,none⟩)] W (SpC W TK AK tw As X F)):=fun W hx=>qE7 (h.ext hx).th hG hPt hF hfar hT hA htw hTT hAs hok hbd
 have H:=q8 h;have HVE:=q8 hV;have HXV:=q8 hxV;have KV:=q8 kV;have HNE:=q8 hne;clear h hV hxV kV hne hG hPt hF hok hbd;go_enter func133,ntmps133;go_wp2_with fail;rw[HVE.out];refine HO.out.mono ?_;rintro e w1 ⟨ov,rfl,hx1,ho1⟩;have HX1:=q8 hx1;have HO1:=q8 ho1;obtain⟨oa,oc,ho⟩:=Q0 ho1;subst ho;have hol:=qc1 tr AK.length;have kV1:=(hx1.block _ (z8 KV.out) (fun f=>f)).trans KV.out;have hxw1:q9 (fun _=>False) w w1:=HXV.out.trans hx1;by_cases hop:0<(opn tr AK.length).length
 ·obtain⟨a,haj⟩:∃ a,(opn tr AK.length)[0]?=some a:=⟨_,List.getElem?_eq_getElem hop⟩;have hao:=qc0.1 (List.mem_of_getElem? haj);have HAO:=q8 hao;obtain⟨og,rfl,hogl⟩:∃ og,oa=some ⟨og,0,none⟩/\og<w1.heap.size:=by
   rcases ho1.2 with⟨_,e0⟩|⟨g',cap,cur,hv,_,hh,_⟩
   ·omega
   ·simp at hv;exact⟨g',hv.1,z8 hh⟩
  have x0:w1.cell? ⟨og,0,none⟩=some (.int .i64 (a:Int)):=(ho1.cellAt 0 (by omega)).trans (by simp[zq2,haj]);have HWO:=q8 (zq3 (H.out.ext hxw1.drew) hlast hln);have hk1024:2^(AK.length-6)<=1024:=Nat.pow_le_pow_right (n:=2) (by decide) (by omega:AK.length-6<=10);have HP:=q8 ((H.out.ext hxw1.drew.drew).pat);have ha16:a<16:=by omega
  have e0:=z6 kV1 0;have e1:=z6 kV1 1;have e2:=z6 kV1 2;have e3:=z6 kV1 3;have e4:=z6 kV1 4;have e5:=z6 kV1 5;have f0:=Q8 kV1 0;have f1:=Q8 kV1 1;have f2:=Q8 kV1 2;have f3:=Q8 kV1 3;have f4:=Q8 kV1 4;have f5:=Q8 kV1 5;have hbl:=z8 kV1;have HXD:=q8 hxw1;clear hx1 ho1 HO haj hao kV1 hxw1;go_wp2_with fail
  go_region_law (go_simp;go_wp2_with (first
   | (go_at_call 176;refine HWO.out.mono ?_;rintro e w2 ⟨b,v,rfl,hW,hwl,rfl⟩;have HV:=q8 (zU0 a (hW.ext ((q9.refl (fun _=>False) w1.drew).drew) (fun f=>f)) (by omega) ha16 HP.out);clear hW)
   | (go_at_call 177;refine HV.out.mono ?_;rintro e w3 ⟨rfl,y,n,rfl,hy,hn⟩;have HYN:=q8 (And.intro hy hn);clear hy hn)
   | fail))
  all_goals
   have hsome:=zQ7 HNE.out HYN.out.1 HYN.out.2;by_cases hyn:n<=y
   ·have hd:decide ((n:Int)<=(y:Int))=true:=decide_eq_true (by omega);have HN0:=q8 (zX7 HYN.out.1 (fun e=>hsome ⟨e,by omega⟩));clear hsome;go_wp2_with fail;refine bodyPost_ret (v:=.tuple #[.agg #[.int .i64 a,.bool true,.bool false,.int .u64 0,.int .u64 0,.int .u64 0],.bool true]) (by simp[results,results133,go_sem,e0,e1,e2,e3,e4,e5]) rfl ⟨⟨a,true,false,M3.none⟩,true,rfl,?_,fun _=>.inl ⟨rfl,rfl,HAO.out.1,HAO.out.2,HN0.out⟩,fun e=>by simp at e⟩;exact((HXD.out.trans' (zv1 _ _ _ _ _ _ _ _) (fun i hi e=>by have h1:i=w.heap.size:=e;omega)).drew).drew
   ·have hd:decide ((n:Int)<=(y:Int))=false:=decide_eq_false (by omega);have HN0:=q8 (qm1 HYN.out.2 (fun e=>hyn (by omega)));clear hsome;go_wp2_with fail;refine bodyPost_ret (v:=.tuple #[.agg #[.int .i64 a,.bool false,.bool false,.int .u64 0,.int .u64 0,.int .u64 0],.bool true]) (by simp[results,results133,go_sem,e0,e1,e2,e3,e4,e5]) rfl ⟨⟨a,false,false,M3.none⟩,true,rfl,?_,fun _=>.inl ⟨rfl,rfl,HAO.out.1,HAO.out.2,HN0.out⟩,fun e=>by simp at e⟩;exact((HXD.out.trans' (zv1 _ _ _ _ _ _ _ _) (fun i hi e=>by have h1:i=w.heap.size:=e;omega)).drew).drew
 ·have hnil:∀ a,a<AK.length->a∈tr.map (·.q):=by
   intro a ha;refine Classical.byContradiction fun hn=>hop ?_
   exact List.length_pos_of_mem (qc0.2 ⟨ha,hn⟩)
  have hop0:(opn tr AK.length).length=0:=by omega
  have HNIL:=q8 hnil;have kb:=(H.out.ext hxw1).blk;have c0:=z6 kb 0;have hbs:=z8 kb;have HSP1:=q8 (HSP.out w1 hxw1);have HXD:=q8 hxw1;have KV1:=q8 kV1;rw[hop0];clear hx1 ho1 HO hop hnil hop0 kb kV1 hxw1 HO1 hol;go_wp2_with fail;refine HSP1.out.mono ?_;rintro e w2 ⟨q,s,rfl,hx2,h1,h2⟩;have kV2:=(hx2.block _ (z8 KV1.out) (fun f=>f)).trans KV1.out;have e0:=z6 kV2 0;have e1:=z6 kV2 1;have e2:=z6 kV2 2;have e3:=z6 kV2 3;have e4:=z6 kV2 4;have e5:=z6 kV2 5;have f0:=Q8 kV2 0;have f1:=Q8 kV2 1;have f2:=Q8 kV2 2;have f3:=Q8 kV2 3;have f4:=Q8 kV2 4;have f5:=Q8 kV2 5;have hbl:=z8 kV2;have HX2:=q8 (HXD.out.trans hx2);have HS1:=q8 h1;have HS2:=q8 h2;clear hx2 h1 h2 kV2;go_wp2_with fail;refine bodyPost_ret (v:=.tuple #[.agg #[.int .i64 q,.bool true,.bool false,.int .u64 0,.int .u64 0,.int .u64 0],.bool s]) (by simp[results,results133,go_sem,e0,e1,e2,e3,e4,e5]) rfl ⟨⟨q,true,false,M3.none⟩,s,rfl,?_,fun e=>.inr ⟨rfl,rfl,rfl,HNIL.out,HS1.out e⟩,fun e=>⟨HNIL.out,HS2.out e⟩⟩;exact HX2.out.trans' (zv1 _ _ _ _ _ _ _ _) (fun i hi e=>by have h1:i=w.heap.size:=e;omega)
end
end
section
open Go.RowKit Ar
structure zF2(F:Fx)(TK:List Z3)(AK:List PA)(tw:List (Nat × Nat)):Prop where
 fx:qg2 F TK tw
 far:F.far<=100000
 t12:TK.length<=12
 a16:AK.length<=16
 tw1:tw.length<=1000
 ok:∀ x∈AK,x.at_.Ok/\x.i<TK.length/\x.j<TK.length
 bd:∀ x∈AK,-1000<=x.b/\x.b<=1000
 fok:F.Ok
 te:AK=[]->tw=[]
def zc4(F:Fx)(AK:List PA)(tw:List (Nat × Nat))(tr:List St)(TT:List W9)(n:Nat):Prop :=
 ∀ k X,k<=n->TT[k]?=some X->ThG F (asQ AK (tr.take k)) X/\(∀ y∈Y8 (asQ AK (tr.take k)),ze1 X.t y)/\(0<k->∀ p∈tw,zg3 F X.t p)
def ju7(TK:List Z3)(AK:List PA)(tr:List St):Prop:=∀ s∈tr,AK.length<=s.q->(s.q-AK.length)/12<TK.length/\(s.q-AK.length)%12<TK.length
def nw(AK:List PA):Nat:=64*2^(AK.length-6)
structure zi5(B:Nat)(W:World)(sb hb:Nat)(TK:List Z3)(AK:List PA)(tw:List (Nat × Nat))(F:Fx)(al:Nat->Bool)(g:Nat)(c:ThV)(tv lv:Value)(tr:List St)(ls:List (List (BitVec 64)))(TT:List W9)(l0:Nat->Bool):Prop where
 sr:SrR B W sb hb g c TK AK tw tv lv tr (asQ AK tr) ls TT
 si:zb4 F (AK.map PA.at_) (nw AK) al tr (ls.map Z9) l0
 tl:TT.length=tr.length+1
 aq:ju7 TK AK tr
section
variable{B:Nat}{W W':World}{sb hb g:Nat}{c:ThV}{TK:List Z3}{AK:List PA}{tw:List (Nat × Nat)}{F:Fx}{al l0:Nat->Bool}{tv lv:Value}{tr:List St}{ls:List (List (BitVec 64))}{TT:List W9}
theorem zi5.len(h:zi5 B W sb hb TK AK tw F al g c tv lv tr ls TT l0):ls.length=min tr.length AK.length+1/\tr.length<=AK.length+144:=by have h1:=h.si.len;have h2:=h.si.few;rw[List.length_map,List.length_map] at h1;rw[List.length_map] at h2;exact⟨h1,h2⟩
theorem qX6(hP:zF2 F TK AK tw){q:Nat}(hq:AK.length<=q->(q-AK.length)/12<TK.length/\(q-AK.length)%12<TK.length):((paQ AK q).at_.Ok/\(paQ AK q).i<TK.length/\(paQ AK q).j<TK.length) /\ -1000<=(paQ AK q).b/\(paQ AK q).b<=1000:=by
 unfold paQ;split
 ·rename_i x hx;have hm:=List.mem_of_getElem? hx;exact⟨hP.ok x hm,hP.bd x hm⟩
 ·rename_i hx;have hge:AK.length<=q:=by
   rcases Nat.lt_or_ge q AK.length with h|h
   ·rw[List.getElem?_eq_getElem h] at hx;simp at hx
   ·exact h
  obtain⟨h1,h2⟩:=hq hge;refine⟨⟨⟨.inr (.inl qf9),fun _=>rfl⟩,h1,h2⟩,by show -1000<=(0:Int);omega,by show(0:Int)<=1000;omega⟩
theorem zi5.ok(h:zi5 B W sb hb TK AK tw F al g c tv lv tr ls TT l0)(hP:zF2 F TK AK tw):∀ x∈asQ AK tr,(x.1.at_.Ok/\x.1.i<TK.length/\x.1.j<TK.length) /\ -1000<=x.1.b/\x.1.b<=1000:=by intro x hx;obtain⟨s,hs,rfl⟩:=List.mem_map.1 hx;exact qX6 hP (h.aq s hs)
theorem zi5.last(h:zi5 B W sb hb TK AK tw F al g c tv lv tr ls TT l0):∃ last,ls[ls.length-1]?=some last/\last.length=2^(AK.length-6)/\∃ x,x<64*last.length/\Z9 last x=true:=by obtain⟨h1,h2⟩:=h.len;obtain⟨last,hl⟩:∃ last,ls[ls.length-1]?=some last:=⟨_,List.getElem?_eq_getElem (by omega)⟩;obtain⟨_,_,_,_,_,_,_,hlen⟩:=h.sr.lf.at_ hl;refine⟨last,hl,hlen,?_⟩;rw[hlen];exact h.si.last_some (by rw[List.length_map,List.getElem?_map,hl];rfl)
theorem zi5.lastT(h:zi5 B W sb hb TK AK tw F al g c tv lv tr ls TT l0):∃ T X,TT=T++[X]/\T.length=tr.length:=by have:=h.tl;refine⟨TT.dropLast,TT.getLast (by intro e;rw[e] at this;simp at this),(List.dropLast_concat_getLast _).symm,by simp;omega⟩
theorem zc4.last{T:List W9}{X:W9}(h:zc4 F AK tw tr (T++[X]) tr.length)(hT:T.length=tr.length):ThG F (asQ AK tr) X/\(∀ y∈Y8 (asQ AK tr),ze1 X.t y)/\(0<tr.length->∀ p∈tw,zg3 F X.t p):=by have:=h tr.length X (Nat.le_refl _) (by rw[<- hT];simp);rw[List.take_length] at this;exact this
theorem zc4.snoc{T:List W9}{X Y:W9}{s:St}(h:zc4 F AK tw tr (T++[X]) tr.length)(hT:T.length=tr.length)(hY:ThG F (asQ AK (tr++[s])) Y/\(∀ y∈Y8 (asQ AK (tr++[s])),ze1 Y.t y)/\∀ p∈tw,zg3 F Y.t p):zc4 F AK tw (tr++[s]) (T++[X]++[Y]) (tr++[s]).length:=by
 intro k Z hk hZ;rw[List.length_append,List.length_singleton] at hk;rcases zd8 hZ with⟨h1,h2⟩|⟨h1,h2⟩
 ·rw[List.length_append,List.length_singleton,hT] at h1;rw[List.take_append_of_le_length (by omega)];exact h k Z (by omega) h2
 ·subst h2;rw[List.length_append,List.length_singleton,hT] at h1;have e:(tr++[s]).take k=tr++[s]:=List.take_of_length_le (by simp;omega);rw[e];exact⟨hY.1,hY.2.1,fun _=>hY.2.2⟩
theorem zc4.bad{T:List W9}{X Y:W9}{s:St}(h:zc4 F AK tw tr (T++[X]) tr.length)(hT:T.length=tr.length):zc4 F AK tw (tr++[s]) (T++[X]++[Y]) tr.length:=by
 intro k Z hk hZ;rcases zd8 hZ with⟨h1,h2⟩|⟨h1,h2⟩
 ·rw[List.take_append_of_le_length (by omega)];exact h k Z hk h2
 ·rw[List.length_append,List.length_singleton,hT] at h1;omega
theorem zc4.take{n m:Nat}(h:zc4 F AK tw tr TT m)(hn:n<=m)(hl:n<=tr.length):zc4 F AK tw (tr.take n) (TT.take (n+1)) (tr.take n).length:=by intro k Z hk hZ;rw[List.length_take,Nat.min_eq_left hl] at hk;obtain⟨h1,h2⟩:=U8 hZ;rw[List.take_take,Nat.min_eq_left hk];exact h k Z (by omega) h2
theorem zi5.ext(h:zi5 B W sb hb TK AK tw F al g c tv lv tr ls TT l0)(hx:q9 (fun _=>False) W W'):zi5 B W' sb hb TK AK tw F al g c tv lv tr ls TT l0:=⟨h.sr.ext hx,h.si,h.tl,h.aq⟩
theorem zi5.siAtom{last:List (BitVec 64)}{s:St}(h:zi5 B W sb hb TK AK tw F al g c tv lv tr ls TT l0)(hlast:ls[ls.length-1]?=some last)(hlen:last.length=2^(AK.length-6))(hN:jj4 AK.length tr last s):zb4 F (AK.map PA.at_) (nw AK) al (tr++[s]) ((ls++[V6 last (X4 (2^(AK.length-6)) s.q s.yes)]).map Z9) l0:=by
 have hA:(AK.map PA.at_).length=AK.length:=by simp
 have hll:(ls.map Z9)[(ls.map Z9).length-1]?=some (Z9 last):=by rw[List.length_map,List.getElem?_map,hlast];rfl
 have hlt:=h.si.open_lt (a:=s.q) (by rw[hA];exact hN.lt) hN.op;rw[List.map_append];refine h.si.atom (by rw[hA];exact hN.lt) hlt hN.op hN.tn hN.bl (h.si.vote hlt hll ?_) hll (fun x hx=>?_)
 ·obtain⟨x,h1,h2,h3⟩:=hN.ex;exact⟨x,by unfold nw;rw[<- hlen];exact h1,h2,h3⟩
 ·have hx':x<64*2^(AK.length-6):=hx;rw[zj0 (by rw[hlen];exact hx') (by rw[x8,hlen]),zs9 hx',Bool.and_eq_true];simp
theorem jw2{X:W9}{o p:Nat}(hP:zF2 F TK AK tw)(hG:ThG F (asQ AK tr) X)(ho:o<TK.length)(hp:p<TK.length)(hg:gr F X.t o=gr F X.t p)(hb:0<X.t.by_ p o):AK.length+o*12+p ∉ tr.map (·.q)/\AK.length+o*12+p<AK.length+144/\(AK.length+o*12+p-AK.length)/12=o/\(AK.length+o*12+p-AK.length)%12=p:=by
 have h12:=hP.t12;have hn:=hP.fx.fn;have e1:(AK.length+o*12+p-AK.length)/12=o:=by omega
 have e2:(AK.length+o*12+p-AK.length)%12=p:=by omega
 refine⟨fun hm=>?_,by omega,e1,e2⟩;obtain⟨t,ht,e⟩:=List.mem_map.1 hm;have hf:=(qA7 hG.inv hG.tk (o:=o) (p:=p) (by omega) (by omega) hg hb t.yes).1;apply hf;rw[zQ9];refine List.mem_map.2 ⟨t,ht,?_⟩;have:atQ (AK.map PA.at_) t.q=⟨[60],o,p,0⟩:=by unfold atQ;rw[List.getElem?_eq_none (by rw[List.length_map];omega),List.length_map,e,e1,e2]
 rw[this]
theorem zi5.siSplit{s:St}(h:zi5 B W sb hb TK AK tw F al g c tv lv tr ls TT l0)(hop:∀ a,a<AK.length->a∈tr.map (·.q))(hq:AK.length<=s.q)(hq2:s.q<AK.length+144)(hn:s.q ∉ tr.map (·.q))(ht:s.turned=false)(hb:s.blame=M3.none):zb4 F (AK.map PA.at_) (nw AK) al (tr++[s]) (ls.map Z9) l0:=by
 have hA:(AK.map PA.at_).length=AK.length:=by simp
 have hl:=zb4.none_open (A:=AK.map PA.at_) (tr:=tr) (by rw[hA];exact hop);exact h.si.split (by rw[hA];exact hq) (by rw[hA];exact hq2) hl hn (by rw[hb];exact J8.none _) (fun e=>by rw[ht] at e;simp at e) (fun _=>hb)
theorem zi5.siTurn{m:M3}{p:Nat}{s:St}(h:zi5 B W sb hb TK AK tw F al g c tv lv tr ls TT l0)(hbad:∀ v,F.V v->¬Hs (HA (ans (AK.map PA.at_) tr)) m v)(hp:tr[p]?=some s)(hmax:∀ k,m.has k=true->k<=p)(hq:AK.length<=s.q):zb4 F (AK.map PA.at_) (nw AK) al (tr.take p++[⟨s.q,!s.yes,true,(m.sub (M3.of p)).or s.blame⟩]) ((ls.take (min p AK.length+1)).map Z9) l0:=by
 have hA:(AK.map PA.at_).length=AK.length:=by simp
 have hpl:=(List.getElem?_eq_some_iff.1 hp).1;obtain⟨b1,b2,_⟩:=zP9 h.si hbad hp hmax;have hlv:=h.si.leave p (Nat.le_of_lt hpl);rw[hA,<- List.map_take] at hlv;have hpa:AK.length<=p:=by
  have:=(h.si.ats p s hp).2;rw[hA] at this;rcases Nat.lt_or_ge p AK.length with e|e
  ·have:=(h.si.ats p s hp).1 (by rw[hA];exact e);rw[hA] at this;omega
  ·exact e
 have htl:(tr.take p).length=p:=by rw[List.length_take];omega
 refine hlv.split (by rw[hA];exact hq) (by have:=h.si.qlt s (List.mem_of_getElem? hp);exact this) (by rw[hA,htl];exact hpa) (fun hm=>?_) (by rw[htl];exact b1) (fun _ v hv hh=>b2 v hv hh) (fun e=>by simp at e);rw[List.map_take] at hm;obtain⟨k,hk⟩:=List.getElem?_of_mem hm;obtain⟨h1,h2⟩:=U8 hk;have h3:(tr.map (·.q))[p]?=some s.q:=by rw[List.getElem?_map,hp];rfl
 obtain⟨hk1,e1⟩:=List.getElem?_eq_some_iff.1 h2;obtain⟨hk2,e2⟩:=List.getElem?_eq_some_iff.1 h3;exact(List.pairwise_iff_getElem.1 h.si.nd k p hk1 hk2 h1) (e1.trans e2.symm)
theorem zi5.cutAt{m:M3}{sm:List (BitVec 64)}{n x:Nat}{l:List (BitVec 64)}(h:zi5 B W sb hb TK AK tw F al g c tv lv tr ls TT l0)(hm:J8 tr.length m)(hat:∀ k,m.has k=true->k<AK.length)(hbad:∀ v,F.V v->¬Hs (HA (ans (AK.map PA.at_) tr)) m v)(hlen:sm.length=2^(AK.length-6))(hs:∀ x,x<64*2^(AK.length-6)->(Z9 sm x=true↔∀ k s,m.has k=true->tr[k]?=some s->x.testBit s.q=s.yes))(hn:n<ls.length)(hl:ls[n]?=some l)(hx:x<64*2^(AK.length-6))(hhas:Z9 (V6 l (U3 sm)) x=true):
  n<tr.length/\zb4 F (AK.map PA.at_) (nw AK) al (tr.take n) (((ls.map (fun l=>V6 l (U3 sm))).take (min n AK.length+1)).map Z9) (fun x=>l0 x && !Z9 sm x):=by
 have hA:(AK.map PA.at_).length=AK.length:=by simp
 obtain⟨h1,_⟩:=h.len;have hll:∀ (k:Nat) (l:List (BitVec 64)),ls[k]?=some l->l.length=2^(AK.length-6):=fun k l hk=>by obtain⟨_,_,_,_,_,_,_,e⟩:=h.sr.lf.at_ hk;exact e
 have hcut:∀ (k:Nat) (l:List (BitVec 64)),ls[k]?=some l->∀ y,y<64*2^(AK.length-6)->Z9 (V6 l (U3 sm)) y=(Z9 l y && !Z9 sm y):=fun k l hk y hy=>by rw[zj0 (by rw[hll k l hk];exact hy) (by rw[O9,hlen,hll k l hk]),zg4 (by rw[hlen];exact hy)]
 have e1:min n AK.length+1=n+1:=by omega
 rw[hcut n l hl x hx] at hhas;simp only[Bool.and_eq_true,Bool.not_eq_true'] at hhas;have hf:=(h.si.lf n (Z9 l) (by rw[List.getElem?_map,hl];rfl) x hx).1 hhas.1;refine⟨?_,?_⟩
 ·rcases Nat.lt_or_ge n tr.length with e|e
  ·exact e
  ·exfalso;have:Z9 sm x=true:=(hs x hx).2 (fun k s hk hks=>hf.2 k s (by have:=hm k hk;omega) hks);rw[hhas.2] at this;simp at this
 ·rw[e1,List.map_take];refine h.si.exclude (by rw[hA];exact hat) hbad (Z9 sm) (fun y hy=>hs y hy) (by simp) (fun k p p' hp hp' y hy=>?_) (fun y hy=>rfl) n (by simpa using hn) ⟨x,hx,_,by rw[List.getElem?_map,List.getElem?_map,hl];rfl,?_⟩
  ·rw[List.getElem?_map] at hp;rw[List.map_map,List.getElem?_map] at hp';cases e:ls[k]? with
   | none=>rw[e] at hp;simp at hp
   | some q=>rw[e] at hp hp';simp at hp hp';subst hp hp';exact hcut k q e y hy
  ·show Z9 (V6 l (U3 sm)) x=true;rw[hcut n l hl x hx,hhas.1,hhas.2]
   rfl
theorem zi5.noneLeft{m:M3}{sm:List (BitVec 64)}(h:zi5 B W sb hb TK AK tw F al g c tv lv tr ls TT l0)(hat:∀ k,m.has k=true->k<AK.length)(hbad:∀ v,F.V v->¬Hs (HA (ans (AK.map PA.at_) tr)) m v)(hlen:sm.length=2^(AK.length-6))(hs:∀ x,x<64*2^(AK.length-6)->(Z9 sm x=true↔∀ k s,m.has k=true->tr[k]?=some s->x.testBit s.q=s.yes))(hno:∀ l∈ls,∀ x,x<64*2^(AK.length-6)->Z9 (V6 l (U3 sm)) x=false):∀ v,F.V v->∀ x,x<nw AK->al x=true->¬isW (AK.map PA.at_) v x:=by
 have hA:(AK.map PA.at_).length=AK.length:=by simp
 obtain⟨h1,_⟩:=h.len;obtain⟨l,hl⟩:∃ l,ls[0]?=some l:=⟨_,List.getElem?_eq_getElem (by omega)⟩;obtain⟨_,_,_,_,_,_,_,hll⟩:=h.sr.lf.at_ hl;refine h.si.none_left (by rw[hA];exact hat) hbad (Z9 sm) (fun y hy=>hs y hy) (fun x hx=>?_);have h2:=hno l (List.mem_of_getElem? hl) x hx;rw[zj0 (by rw[hll];exact hx) (by rw[O9,hlen,hll]),zg4 (by rw[hlen];exact hx)] at h2;cases e:l0 x with
 | false=>rfl
 | true=>have h3:=(h.si.lf 0 (Z9 l) (by rw[List.getElem?_map,hl];rfl) x hx).2 ⟨e,fun k s hk=>by omega⟩;rw[h3] at h2;exact h2
end
end
end Go.Proofs.YtegbdaffhpiacaaGreatDoor
