/- A part of the proof. -/
import Derived.Test.YtegbdaffhpiacaaGreatDoorMod19
import Derived.Deep.WholeRow
set_option maxRecDepth 100000
set_option maxHeartbeats 1000000
namespace Go.Proofs.YtegbdaffhpiacaaGreatDoor
open Tryz
section
open Go.RowKit Ar
def zi0:Value:=.agg (((List.replicate 169 ([.int .i64 0,.int .u64 0,.int .u64 0,.int .u64 0]:List Value)).flatten++([.int .i64 0,.bool false,.int .u64 0,.int .u64 0,.int .u64 0]:List Value)).toArray)
theorem zH5:(prog.info? 203).map (fun i=>(i.zero,i.size,i.bytes))=some (some zi0,681,5448):=by kernel_rfl
theorem zw0.own{w:World}{bv:Value}{g n:Nat}{TT:List W9}(h:zw0 w bv g n TT):∃ (cap:Nat) (C:Array Value),bv=.slice (some ⟨g,0,none⟩) TT.length cap/\w.heap[g]?=some (.cells C 203)/\(∀ k X,TT[k]?=some X->J9 C (k*681) n X)/\w.ownsRow 0 203 681 bv TT.length (C.toList.take (TT.length*681)):=by
 obtain⟨cap,C,h1,h2,h3,h4,h5,h6⟩:=h.ex;refine⟨cap,C,h1,h2,h6,?_,.inr ⟨g,cap,C,h1,Nat.zero_le _,h2,h4,h5,h3,rfl⟩⟩;have e:C.toList.length=cap*681:=by rw[<- h3];simp
 rw[List.length_take,e];have:=Nat.mul_le_mul_right 681 h4;omega
theorem J9.of_get{C C':Array Value}{o o' n:Nat}{X:W9}(h:J9 C o n X)(hg:∀ q,q<681->C'[o'+q]?=C[o+q]?):J9 C' o' n X:=by
 refine⟨fun i j hi hj=>?_,fun i j hi hj=>?_,fun i j hi hj=>?_,fun i j hi hj=>?_,?_,?_,?_,?_,?_⟩
 ·rw[show o'+i*52+j*4=o'+(i*52+j*4) by omega,hg _ (by omega),show o+(i*52+j*4)=o+i*52+j*4 by omega];exact h.by_ i j hi hj
 ·rw[show o'+i*52+j*4+1=o'+(i*52+j*4+1) by omega,hg _ (by omega),show o+(i*52+j*4+1)=o+i*52+j*4+1 by omega];exact h.wa i j hi hj
 ·rw[show o'+i*52+j*4+2=o'+(i*52+j*4+2) by omega,hg _ (by omega),show o+(i*52+j*4+2)=o+i*52+j*4+2 by omega];exact h.wb i j hi hj
 ·rw[show o'+i*52+j*4+3=o'+(i*52+j*4+3) by omega,hg _ (by omega),show o+(i*52+j*4+3)=o+i*52+j*4+3 by omega];exact h.wc i j hi hj
 ·rw[hg _ (by omega)];exact h.size
 ·rw[hg _ (by omega)];exact h.news
 ·rw[hg _ (by omega)];exact h.xa
 ·rw[hg _ (by omega)];exact h.xb
 ·rw[hg _ (by omega)];exact h.xc
theorem zw0.push{w':World}{g' n m cap':Nat}{TT:List W9}{X:W9}{xs news:List Value}{C D:Array Value}(hC:∀ k X,TT[k]?=some X->J9 C (k*681) n X)(hxs:xs=C.toList.take (m*681))(hm:m=TT.length)(hxl:xs.length=m*681)(hX:J9 D 0 n X)(hD:news=D.toList)
  (hown:w'.ownsRow 0 203 681 (.slice (some ⟨g',0,none⟩) (m+1) cap') (m+1) (xs++news)):zw0 w' (.slice (some ⟨g',0,none⟩) (m+1) cap') g' n (TT++[X]):=by
 rcases hown.2 with⟨_,e⟩|⟨g2,cap2,cur,hv,_,hh,h1,h2,h3,h4⟩
 ·omega
 ·simp at hv;obtain⟨rfl,rfl⟩:=hv;refine⟨cap',cur,by simp[hm],hh,h3,by simp;omega,h2,fun k Y hk=>?_⟩;have hget:∀ q,q<(m+1)*681->cur[q]?=(xs++news)[q]?:=by
   intro q hq;rw[<- h4,List.getElem?_take,if_pos hq,Array.getElem?_toList]
  rcases zd8 hk with⟨hlt,hk⟩|⟨rfl,rfl⟩
  ·refine J9.of_get (C:=C) (o:=k*681) (hC k Y hk) (fun q hq=>?_);have hlt2:k*681+q<m*681:=by
    have:=Nat.mul_le_mul_right 681 (by omega:k+1<=m);omega
   have hq2:k*681+q<(m+1)*681:=Nat.lt_of_lt_of_le hlt2 (Nat.mul_le_mul_right 681 (Nat.le_succ m));have hq3:k*681+q<xs.length:=by rw[hxl];exact hlt2
   rw[hget (k*681+q) hq2,List.getElem?_append_left hq3,hxs,List.getElem?_take,if_pos hlt2,Array.getElem?_toList]
  ·refine J9.of_get (C:=D) (o:=0) hX (fun q hq=>?_);have hq2:TT.length*681+q<(m+1)*681:=by rw[hm,Nat.succ_mul];exact Nat.add_lt_add_left hq _
   have hq3:xs.length<=TT.length*681+q:=by rw[hxl,hm];exact Nat.le_add_right _ _
   rw[hget (TT.length*681+q) hq2,List.getElem?_append_right hq3,hxl,hD,Array.getElem?_toList,hm,Nat.add_sub_cancel_left,Nat.zero_add]
theorem J9.cut{C:Array Value}{o n:Nat}{X:W9}(h:J9 C o n X):J9 (C.extract o (o+681)) 0 n X:=by
 refine h.of_get (fun q hq=>?_);rw[Array.getElem?_extract];have:=za4 h.xc;rw[if_pos (by omega)]
 congr 1
 omega
theorem zK6{C:Array Value}{o n:Nat}{X:W9}(h:J9 C o n X):(C.extract o (o+681)).size=681:=by have:=za4 h.xc;simp;omega
section
variable{w w':World}{hb g:Nat}{c:ThV}{TK:List Z3}{AK:List PA}{tw:List (Nat × Nat)}{As:List (PA × Bool)}{TT:List W9}{X Y:W9}
theorem ThR.tab(h:ThR w hb g c TK AK tw As (TT++[X])):∃ C,w.heap[g]?=some (.cells C 203)/\J9 C (TT.length*681) (TK.length+1) X/\∀ w' Y,O0 w g (TT.length*681) (TK.length+1) C Y w'->ThR w' hb g c TK AK tw As (TT++[Y]):=by
 obtain⟨cap,C,h1,h2,h3,h4,h5,h6⟩:=h.tb.ex;refine⟨C,h2,h6 TT.length X (by simp),fun w' Y hp=>?_⟩;obtain⟨hx,C',k',hT',hs⟩:=hp;have nb:¬hb=g:=by intro e;have:=h.blk;rw[e,h2] at this;simp at this
 refine⟨(hx.block _ (z8 h.blk) nb).trans h.blk,z7 h.ts hx (fun k hk e=>Z7 h.ts h2 (by decide) (e▸hk)),z7 h.ats hx (fun k hk e=>Z7 h.ats h2 (by decide) (e▸hk)),z7 h.tw hx (fun k hk e=>Z7 h.tw h2 (by decide) (e▸hk)),z7 h.ss hx (fun k hk e=>Z7 h.ss h2 (by decide) (e▸hk)),⟨cap,C',by rw[h1];simp,k',by rw[hs.1];exact h3,by simpa using h4,h5,fun k Z hk=>?_⟩⟩;rcases zd8 hk with⟨hlt,hk⟩|⟨rfl,rfl⟩
 ·refine J9.of_get (C:=C) (o:=k*681) (h6 k Z (by rw[List.getElem?_append_left hlt];exact hk)) (fun q hq=>hs.2 _ (.inl ?_));have:=Nat.mul_le_mul_right 681 (by omega:k+1<=TT.length);rw[Nat.succ_mul] at this;exact Nat.lt_of_lt_of_le (Nat.add_lt_add_left hq _) this
 ·exact hT'
theorem ThR.ext{S:Nat->Prop}(h:ThR w hb g c TK AK tw As TT)(hx:q9 S w w')(hS:∀ k,(k=hb\/k=g\/c.tv.ownBlock=some k\/c.av.ownBlock=some k\/c.wv.ownBlock=some k\/c.sv.ownBlock=some k)->¬S k):ThR w' hb g c TK AK tw As TT:=by obtain⟨cap,C,h1,h2,h3⟩:=h.tb.ex;exact⟨(hx.block _ (z8 h.blk) (hS _ (.inl rfl))).trans h.blk,z7 h.ts hx (fun k hk=>hS k (.inr (.inr (.inl hk)))),z7 h.ats hx (fun k hk=>hS k (.inr (.inr (.inr (.inl hk))))),z7 h.tw hx (fun k hk=>hS k (.inr (.inr (.inr (.inr (.inl hk)))))),z7 h.ss hx (fun k hk=>hS k (.inr (.inr (.inr (.inr (.inr hk)))))),⟨cap,C,h1,(hx.block _ (z8 h2) (hS _ (.inr (.inl rfl)))).trans h2,h3⟩⟩
theorem zT1{o n i j:Nat}{C:Array Value}(kb:w.heap[g]?=some (.cells C 203))(hT:J9 C o n X)(hi:i<13)(hj:j<13):
  Calls prog 272 #[.pointer (some ⟨g,o,none⟩),.int .i64 i,.int .i64 j] w fun e w'=>q9 (fun _=>False) w w'/\((e=.returned (.tuple #[.agg #[.int .u64 0,.int .u64 0,.int .u64 0],.bool false])/\¬(X.t.by_ i j<=0/\X.t.by_ j i<=0))\/(e=.returned (.tuple #[((X.t.why i j).or (X.t.why j i)).val,.bool true])/\X.t.by_ i j<=0/\X.t.by_ j i<=0)):=by
 obtain⟨W,hW⟩:∃ W,w.alloc (.cells #[.int .u64 0,.int .u64 0,.int .u64 0] 197)=W:=⟨_,rfl⟩;have hxW:q9 (fun _=>False) w W:=by rw[<- hW];exact(q9.refl _ w).alloc _
 have kW:=(hxW.block _ (z8 kb) (fun f=>f)).trans kb;have kM:W.heap[w.heap.size]?=some (.cells #[.int .u64 0,.int .u64 0,.int .u64 0] 197):=by rw[<- hW];exact heap_alloc_new w _
 obtain⟨t0,t1,t2,t3⟩:=hT.cell kW (i:=i) (j:=j) hi hj;obtain⟨r0,r1,r2,r3⟩:=hT.cell kW (i:=j) (j:=i) hj hi;have hgl:=z8 kW;have hii:(i:Int)<13:=by omega
 have hji:(j:Int)<13:=by omega
 have HWE:=q8 hW;have HXW:=q8 hxW;have KM:=q8 kM;have m0:=z6 kM 0;have m1:=z6 kM 1;have m2:=z6 kM 2;have y0:=Q8 kM 0;have y1:=Q8 kM 1;have y2:=Q8 kM 2;have hml:=z8 kM;have HML:=q8 hml;clear kb hT hW hxW kW kM;go_enter func272,ntmps272;go_wp2_with fail;rw[HWE.out]
 go_region
 all_goals
  by_cases h1:0<X.t.by_ i j
  ·have hd1:decide (0<X.t.by_ i j)=true:=decide_eq_true h1;go_wp2_with fail;refine bodyPost_ret (v:=.tuple #[.agg #[.int .u64 0,.int .u64 0,.int .u64 0],.bool false]) (by simp[results,results272,go_sem,m0,m1,m2,hml]) rfl ⟨?_,.inl ⟨rfl,by omega⟩⟩;exact(((HXW.out.trans' (ze3 _ _ _ _ _) (fun i hi e=>by have h1:i=w.heap.size:=e;omega)).alloc _).alloc _).drew
  ·have hd1:decide (0<X.t.by_ i j)=false:=decide_eq_false h1;have h1':X.t.by_ i j<=0:=by omega
   clear h1;by_cases h2:0<X.t.by_ j i
   ·have hd2:decide (0<X.t.by_ j i)=true:=decide_eq_true h2;go_wp2_with fail;refine bodyPost_ret (v:=.tuple #[.agg #[.int .u64 0,.int .u64 0,.int .u64 0],.bool false]) (by simp[results,results272,go_sem,m0,m1,m2,hml]) rfl ⟨?_,.inl ⟨rfl,by omega⟩⟩;exact(((HXW.out.trans' (ze3 _ _ _ _ _) (fun i hi e=>by have h1:i=w.heap.size:=e;omega)).alloc _).alloc _).drew
   ·have hd2:decide (0<X.t.by_ j i)=false:=decide_eq_false h2;have h2':X.t.by_ j i<=0:=by omega
    clear h2;go_wp2_with fail;refine(zg9 (X.t.why i j) (X.t.why j i) _).mono ?_;rintro e w3 ⟨rfl,hx3⟩;have hx4:q9 (fun _=>False) W w3:=((((q9.refl (fun _=>False) W).alloc _).alloc _).drew).trans hx3;have k3:=(hx4.block _ HML.out (fun f=>f)).trans KM.out;have m0:=z6 k3 0;have m1:=z6 k3 1;have m2:=z6 k3 2;have y0:=Q8 k3 0;have y1:=Q8 k3 1;have y2:=Q8 k3 2;have HX4:=q8 hx4;simp only[M3.val,u64];clear hx3 hx4 k3;go_wp2_with fail;refine bodyPost_ret (v:=.tuple #[.agg #[.int .u64 ((X.t.why i j).or (X.t.why j i)).a.toNat,.int .u64 ((X.t.why i j).or (X.t.why j i)).b.toNat,.int .u64 ((X.t.why i j).or (X.t.why j i)).c.toNat],.bool true]) (by simp[results,results272,go_sem,m0,m1,m2]) rfl ⟨?_,.inr ⟨rfl,h1',h2'⟩⟩;exact(HXW.out.trans HX4.out).trans' (ze3 _ _ _ _ _) (fun i hi e=>by have h1:i=w.heap.size:=e;omega)
end
section
variable{w:World}{hb g:Nat}{c:ThV}{TK:List Z3}{AK:List PA}{tw:List (Nat × Nat)}{As:List (PA × Bool)}{TT:List W9}{X:W9}
def paQ(AK:List PA)(q:Nat):PA:=match AK[q]? with
 | some x=>x
 | none=>⟨⟨#[60]⟩,(q-AK.length)/12,(q-AK.length)%12,0⟩
theorem zg8{AK:List PA}{q:Nat}{x:PA}(h:AK[q]?=some x){j:Nat}{u:Value}(hu:x.cells[j]?=some u):(AK.flatMap PA.cells)[q*4+j]?=some u :=
 qe8 (f:=PA.cells) (m:=4) (fun _=>rfl) h hu
theorem qp4(h:ThR w hb g c TK AK tw As TT)(q:Nat)(hq:q<=100000)(hA:AK.length<=16):
  Calls prog 258 #[.pointer (some ⟨hb,0,none⟩),.int .i64 q] w fun e w'=>e=.returned (.agg #[.string (paQ AK q).wd,.int .i64 (paQ AK q).i,.int .i64 (paQ AK q).j,.int .i64 (paQ AK q).b])/\q9 (fun _=>False) w w':=by
 have kb:=h.blk;obtain⟨aa,ac,hav⟩:=Q0 h.ats;rw[hav] at kb;have c1:=z6 kb 1;by_cases hlt:q<AK.length
 ·obtain⟨x,hx⟩:∃ x,AK[q]?=some x:=⟨_,List.getElem?_eq_getElem hlt⟩;have hpq:paQ AK q=x:=by unfold paQ;rw[hx]
  rw[hpq];have ho:=h.ats;obtain⟨ga,hga⟩:∃ ga,aa=some ⟨ga,0,none⟩/\ga<w.heap.size:=by
   rcases ho.2 with⟨e,e0⟩|⟨g',cap,cur,hv,_,hh,_⟩
   ·omega
   ·rw[hav] at hv;simp at hv;exact⟨g',hv.1,z8 hh⟩
  obtain⟨rfl,hgl⟩:=hga;rw[hav] at ho;have x0:w.cell? ⟨ga,q*4,none⟩=some (.string x.wd):=(ho.cellAt (q*4) (by omega)).trans (zg8 hx (j:=0) rfl);have x1:w.cell? ⟨ga,q*4+1,none⟩=some (.int .i64 x.i):=(ho.cellAt (q*4+1) (by omega)).trans (zg8 hx rfl);have x2:w.cell? ⟨ga,q*4+2,none⟩=some (.int .i64 x.j):=(ho.cellAt (q*4+2) (by omega)).trans (zg8 hx rfl);have x3:w.cell? ⟨ga,q*4+3,none⟩=some (.int .i64 x.b):=(ho.cellAt (q*4+3) (by omega)).trans (zg8 hx rfl);have hbl:=z8 kb;clear h kb ho hx hpq hav;go_enter func258,ntmps258;go_wp2_with fail;refine bodyPost_ret (v:=.agg #[.string x.wd,.int .i64 x.i,.int .i64 x.j,.int .i64 x.b]) (by simp[results,results258,go_sem]) rfl ⟨rfl,(q9.refl _ w).alloc _⟩
 ·have hge:AK.length<=q:=by omega
  have hpq:paQ AK q=⟨⟨#[60]⟩,(q-AK.length)/12,(q-AK.length)%12,0⟩:=by unfold paQ;rw[List.getElem?_eq_none hge]
  rw[hpq];obtain⟨d,hd⟩:∃ d,q=AK.length+d:=⟨q-AK.length,by omega⟩;subst hd;have e1:AK.length+d-AK.length=d:=by omega
  have e2:(AK.length:Int)+(d:Int)-(AK.length:Int)=d:=by omega
  rw[e1];have hbl:=z8 kb;clear h kb hpq hav hlt e1;go_enter func258,ntmps258;go_wp2_with fail;refine bodyPost_ret (v:=.agg #[.string ⟨#[60]⟩,.int .i64 ((d/12:Nat):Int),.int .i64 ((d%12:Nat):Int),.int .i64 0]) (by simp[results,results258,go_sem]) rfl ⟨rfl,(q9.refl _ w).alloc _⟩
theorem zK7(h:ThR w hb g c TK AK tw As TT)(hA:AK.length<=16){i j:Nat}(hi:i<100)(hj:j<100):
  Calls prog 270 #[.pointer (some ⟨hb,0,none⟩),.int .i64 i,.int .i64 j] w fun e w'=>e=.returned (.int .i64 ((AK.length+i*12+j:Nat):Int))/\w' = w:=by
 have kb:=h.blk;obtain⟨aa,ac,hav⟩:=Q0 h.ats;rw[hav] at kb;have c1:=z6 kb 1;clear h kb hav;go_enter func270,ntmps270;go_wp2_with fail;go_ret;exact⟨by go_num,rfl⟩
theorem zj3(h:ThR w hb g c TK AK tw As (TT++[X]))(hT:TK.length<=12)(hl:TT.length<=500){i:Nat}(hi:i<=TK.length):
  Calls prog 262 #[.pointer (some ⟨hb,0,none⟩),.int .i64 i] w fun e w'=>e=.returned (.int .i64 (X.t.by_ i TK.length))/\q9 (fun _=>False) w w':=by
 have kb:=h.blk;obtain⟨ta,tc,htv⟩:=Q0 h.ts;rw[htv] at kb;have c0:=z6 kb 0;obtain⟨C,kg,hTab,_⟩:=h.tab;obtain⟨t0,_,_,_⟩:=hTab.cell kg (i:=i) (j:=TK.length) (by omega) (by omega);have HN:=q8 (zg5 h (by simp) (by simp;omega));have hii:i<13:=by omega
 have htk:TK.length<13:=by omega
 rw[List.length_append,List.length_singleton,Nat.add_sub_cancel] at HN;obtain⟨m,hm⟩:∃ m,TT.length*681=m:=⟨_,rfl⟩;rw[hm] at HN t0;clear h kb kg hTab htv hm;go_enter func262,ntmps262;go_wp2_with fail;refine HN.out.mono ?_;rintro e w1 ⟨rfl,rfl⟩;go_wp2_with fail;go_ret;exact⟨rfl,(q9.refl _ w).drew⟩
theorem qg0(h:ThR w hb g c TK AK tw As (TT++[X]))(hT:TK.length<=12)(hA:AK.length<=16)(hl:TT.length<=500){i j:Nat}(hi:i<TK.length)(hj:j<TK.length):
  Calls prog 264 #[.pointer (some ⟨hb,0,none⟩),.int .i64 i,.int .i64 j] w fun e w'=>e=.returned (.int .i64 ((if 0<X.t.by_ j i then AK.length+i*12+j else AK.length+j*12+i:Nat):Int))/\q9 (fun _=>False) w w':=by
 obtain⟨C,kg,hTab,_⟩:=h.tab;obtain⟨t0,_,_,_⟩:=hTab.cell kg (i:=j) (j:=i) (by omega) (by omega);have HN:=q8 (zg5 h (by simp) (by simp;omega));have hi13:i<13:=by omega
 have hj13:j<13:=by omega
 have hd:=h.ext ((q9.refl (fun _=>False) w).drew) (fun _ _ f=>f);have HL1:=q8 (zK7 hd hA (i:=i) (j:=j) (by omega) (by omega));have HL2:=q8 (zK7 hd hA (i:=j) (j:=i) (by omega) (by omega));rw[List.length_append,List.length_singleton,Nat.add_sub_cancel] at HN;obtain⟨m,hm⟩:∃ m,TT.length*681=m:=⟨_,rfl⟩;rw[hm] at HN t0;clear h kg hTab hm hd;by_cases hb0:0<X.t.by_ j i
 ·have hd1:decide (0<X.t.by_ j i)=true:=decide_eq_true hb0;rw[if_pos hb0];go_enter func264,ntmps264;go_wp2_with fail;refine HN.out.mono ?_;rintro e w1 ⟨rfl,rfl⟩;go_wp2_with fail;refine HL1.out.mono ?_;rintro e w2 ⟨rfl,rfl⟩;go_wp2_with fail;go_ret;exact⟨rfl,(q9.refl _ w).drew⟩
 ·have hd1:decide (0<X.t.by_ j i)=false:=decide_eq_false hb0;rw[if_neg hb0];have hb1:X.t.by_ j i<=0:=by omega
  clear hb0;go_enter func264,ntmps264;go_wp2_with fail;refine HN.out.mono ?_;rintro e w1 ⟨rfl,rfl⟩;go_wp2_with fail;refine HL2.out.mono ?_;rintro e w2 ⟨rfl,rfl⟩;go_wp2_with fail;go_ret;exact⟨rfl,(q9.refl _ w).drew⟩
end
def Y8(As:List (PA × Bool)):List (At × Bool):=As.map (fun x=>(x.1.at_,x.2))
theorem zm7{As:List (PA × Bool)}{k:Nat}{x:PA × Bool}(h:As[k]?=some x):(Y8 As)[k]?=some (x.1.at_,x.2):=by simp[Y8,h]
theorem zT2{As:List (PA × Bool)}{k:Nat}{x:PA × Bool}(h:As[k]?=some x):(X1 As)[k*5]?=some (.string x.1.wd)/\(X1 As)[k*5+1]?=some (.int .i64 x.1.i)/\(X1 As)[k*5+2]?=some (.int .i64 x.1.j)/\(X1 As)[k*5+3]?=some (.int .i64 x.1.b)/\(X1 As)[k*5+4]?=some (.bool x.2):=by
 have hk:=(List.getElem?_eq_some_iff.1 h).1;have e:As=As.take k++x::As.drop (k+1):=by have e1:=(List.take_append_drop k As).symm;rw[List.drop_eq_getElem_cons hk,(List.getElem?_eq_some_iff.1 h).2] at e1;exact e1
 have hl:∀ l:List (PA × Bool),(X1 l).length=l.length*5:=by
  intro l
  induction l with
  | nil=>rfl
  | cons a b ih=>simp only[X1,List.flatMap_cons,List.length_append] at ih ⊢;simp[PA.cells] at ih ⊢;omega
 have e2:X1 As=X1 (As.take k)++([.string x.1.wd,.int .i64 x.1.i,.int .i64 x.1.j,.int .i64 x.1.b,.bool x.2]++X1 (As.drop (k+1))):=by
  conv=>lhs;rw[e]
  simp[X1,PA.cells]
 have hlk:(X1 (As.take k)).length=k*5:=by rw[hl,List.length_take];congr 1;omega
 rw[e2];refine⟨?_,?_,?_,?_,?_⟩
 ·rw[List.getElem?_append_right (by omega),hlk,Nat.sub_self];rfl
 all_goals (rw[List.getElem?_append_right (by omega),hlk,Nat.add_sub_cancel_left];rfl)
section
variable{w:World}{hb g:Nat}{c:ThV}{TK:List Z3}{AK:List PA}{tw:List (Nat × Nat)}{As:List (PA × Bool)}{TT:List W9}{X:W9}{F:Fx}
def ThC(w:World)(hb g:Nat)(c:ThV)(TK:List Z3)(AK:List PA)(tw:List (Nat × Nat))(As:List (PA × Bool))(TT:List W9)(X:W9)(F:Fx)(R:W9->Prop)(e:Ending)(w':World):Prop :=
 ∃ Y ok,e=.returned (.bool ok)/\ThR w' hb g c TK AK tw As (TT++[Y])/\q9 (fun k=>k=g) w w'/\Ar.TPost (F.n+1) F.far F.V (HA (Y8 As)) As.length X Y ok/\(ok=true->R Y)
structure PtW(w:World)(hb g:Nat)(c:ThV)(TK:List Z3)(AK:List PA)(tw:List (Nat × Nat))(As:List (PA × Bool))(TT:List W9)(X:W9)(F:Fx)(P:W9->Prop)(wr:World):Prop where
 ex:∃ Y,ThR wr hb g c TK AK tw As (TT++[Y])/\q9 (fun k=>k=g) w wr/\Ar.TPost (F.n+1) F.far F.V (HA (Y8 As)) As.length X Y true/\P Y
theorem qp6(h:ThR w hb g c TK AK tw As (TT++[X]))(hF:F.n=TK.length)(hT:TK.length<=12)(hl:TT.length<=500)(hAs:As.length<=190)(hok:∀ x∈As,x.1.at_.Ok/\x.1.i<TK.length/\x.1.j<TK.length)(hI:V9 (F.n+1) F.far F.V (HA (Y8 As)) As.length X.t)(hfar:F.far<=1000000):
  Calls prog 268 #[.pointer (some ⟨hb,0,none⟩)] w (ThC w hb g c TK AK tw As TT X F (fun Y=>Y.news=false->∀ x∈Y8 As,ze1 Y.t x)):=by
 have kb:=h.blk;obtain⟨sa,sc,hsv⟩:=Q0 h.ss;have hbl:=z8 kb;rw[hsv] at kb;have c3:=z6 kb 3;have H:=q8 h;have HI:=q8 hI;have HOK:=q8 hok;clear h kb hI hok;go_enter func268,ntmps268;go_wp2_with fail
 go_loopw [10] (fun i wr=>∃ j:Nat,j<=As.length/\i=.int .i64 j/\PtW w hb g c TK AK tw As TT X F (fun Y=>Y.news=false->∀ x∈(Y8 As).take j,ze1 Y.t x) wr) (fun i _=>As.length-(intOf i).toNat)
 case atStart=>exact⟨0,Nat.zero_le _,rfl,X,H.out,q9.refl _ _,Ar.TPost.refl HI.out,fun _ x hx=>by simp at hx⟩
 case round=>
  obtain⟨j,hj,rfl,Y,hR,hx,hP,hQ⟩:=hrel;have HR:=q8 hR;have HX:=q8 hx;have HP:=q8 hP;have HQ:=q8 hQ;by_cases hlt:j<As.length
  ·obtain⟨⟨x,yes⟩,hxj⟩:∃ x,As[j]?=some x:=⟨_,List.getElem?_eq_getElem hlt⟩;obtain⟨hxo,hxi,hxjj⟩:=HOK.out _ (List.mem_of_getElem? hxj);obtain⟨gs,rfl,hgsl⟩:∃ gs,sa=some ⟨gs,0,none⟩/\gs<wr.heap.size:=by
    rcases hR.ss.2 with⟨e,e0⟩|⟨g',cap,cur,hv,_,hh,_⟩
    ·omega
    ·rw[hsv] at hv;simp at hv;exact⟨g',hv.1,z8 hh⟩
   have ho:=hR.ss;rw[hsv] at ho;obtain⟨q0,q1,q2,q3,q4⟩:=zT2 hxj;have x0:=(ho.cellAt (j*5) (by omega)).trans q0;have x1:=(ho.cellAt (j*5+1) (by omega)).trans q1;have x2:=(ho.cellAt (j*5+2) (by omega)).trans q2;have x3:=(ho.cellAt (j*5+3) (by omega)).trans q3;have x4:=(ho.cellAt (j*5+4) (by omega)).trans q4;have HXJ:=q8 hxj;have hw:=PA.words hxo;have HXO:=q8 hxo;obtain⟨wd,xi,xj,xb⟩:=x;simp only at hw x0 x1 x2 x3 x4 hxi hxjj;clear hR hx hP hQ hxj ho q0 q1 q2 q3 q4 hxo;rcases hw with rfl|rfl|rfl|rfl
   ·cases yes with
    | true=>
     go_wp2_with fail
     go_roundw
     case measure=>simp[intOf];omega
     case rel=>
      refine⟨j+1,by omega,by go_num,Y,HR.out.ext ((q9.refl (fun _=>False) wr).alloc _) (fun _ _ f=>f),HX.out.trans ((q9.refl _ wr).alloc _),HP.out,fun hn y hy=>?_⟩;rw[List.take_add_one,zm7 HXJ.out] at hy;rcases List.mem_append.1 hy with e|e
      ·exact HQ.out hn y e
      ·simp at e;subst e;intro _ e3;simp at e3
    | false=>
     obtain⟨V,hV⟩:∃ V,wr.alloc (.cells #[.string ⟨#[61]⟩,.int .i64 xi,.int .i64 xj,.int .i64 xb,.bool false] 382)=V:=⟨_,rfl⟩;have hxV:q9 (fun _=>False) wr V:=by rw[<- hV];exact(q9.refl _ wr).alloc _
     have kA:V.heap[wr.heap.size]?=some (.cells #[.string ⟨#[61]⟩,.int .i64 xi,.int .i64 xj,.int .i64 xb,.bool false] 382):=by rw[<- hV];exact heap_alloc_new wr _
     have hAl:=z8 kA;have HNOW:Hid (∀ W,q9 (fun _=>False) wr W->Calls prog 259 #[.pointer (some ⟨hb,0,none⟩)] W fun e w'=>e=.returned (.pointer (some ⟨g,TT.length*681,none⟩))/\q9 (fun _=>False) wr w'/\w'.heap=W.heap):=by intro W hxw;have:=zg5 (HR.out.ext hxw (fun _ _ f=>f)) (by simp) (by simp;omega);rw[List.length_append,List.length_singleton,Nat.add_sub_cancel] at this;exact this.mono (fun e w' h=>⟨h.1,by rw[h.2];exact hxw.drew,by rw[h.2];rfl⟩)
     have HOF:Hid (∀ W,q9 (fun _=>False) wr W->Calls prog 179 #[.int .i64 j] W fun e w'=>e=.returned (.agg #[.int .u64 (M3.of j).a.toNat,.int .u64 (M3.of j).b.toNat,.int .u64 (M3.of j).c.toNat])/\q9 (fun _=>False) wr w'/\q9 (fun _=>False) W w') :=
      fun W hxw=>(zZ1 j (by omega) W).mono (fun e w' h=>⟨h.1,hxw.trans h.2,h.2⟩)
     obtain⟨C,kg,hTab,hTurn⟩:=HR.out.tab;have hpart:∀ v,F.V v->Hs (HA (Y8 As)) (M3.of j) v->v xi≠v xj:=by intro v hv hh;have:=hh j (by rw[M3.has_of (by omega)];simp) _ (zm7 HXJ.out);rw[At.tr_eq _ (by exact qx8)] at this;exact of_decide_eq_false this
     have HPT:Hid (∀ W,q9 (fun _=>False) wr W->Calls prog 273 #[.pointer (some ⟨g,TT.length*681,none⟩),.int .i64 xi,.int .i64 xj,.agg #[.int .u64 (M3.of j).a.toNat,.int .u64 (M3.of j).b.toNat,.int .u64 (M3.of j).c.toNat]] W fun e wp=>∃ Z ok,e=.returned (.bool ok)/\ThR wp hb g c TK AK tw As (TT++[Z])/\q9 (fun k=>k=g) w wp/\Ar.TPost (TK.length+1) F.far F.V (HA (Y8 As)) As.length Y Z ok/\(ok=true->Z.news=false->Z.t.by_ xi xj≠0/\Z.t.by_ xj xi≠0)):=by
      intro W hxw;refine(qE4 ((hxw.block _ (z8 kg) (fun f=>f)).trans kg) hTab (by omega) (by omega) (by omega) (X:=Y) (far:=F.far) (V:=F.V) (H:=HA (Y8 As)) (K:=As.length) (mw:=M3.of j) ?_ hfar ?_ hpart).mono ?_
      ·have:=HP.out.inv rfl;rw[hF] at this;exact this
      ·intro k hk;rw[M3.has_of (by omega)] at hk;simp at hk;omega
      ·rintro e wp ⟨Z,ok,he,hTP,hPP,hRR⟩;exact⟨Z,ok,he,hTurn wp Z (O0.trans (hxw.mono (fun _ _ f=>f.elim)) (X9.refl _ _) hTP),HX.out.trans ((hxw.mono (fun _ _ f=>f.elim)).trans hTP.1),hPP,hRR⟩
     have HVE:=q8 hV;have hxVD:q9 (fun _=>False) wr V.drew:=hxV.drew;have v1:=z6 kA 1;have v2:=z6 kA 2;have KA:=q8 kA;obtain⟨m,hm⟩:∃ m,TT.length*681=m:=⟨_,rfl⟩;rw[hm] at HNOW HPT;clear hV kA kg hTab hTurn hpart hm hxV;go_wp2_with fail;rw[HVE.out]
     go_region_law (go_simp;go_wp2_with (first
      | (go_at_call 259;refine(HNOW.out _ (by assumption)).mono ?_;rintro e wa ⟨rfl,hxa,hha⟩;have ka:wa.heap[wr.heap.size]?=some (.cells #[.string ⟨#[61]⟩,.int .i64 xi,.int .i64 xj,.int .i64 xb,.bool false] 382):=(by rw[hha];first|exact KA.out|assumption);have va1:=z6 ka 1;have va2:=z6 ka 2;clear hha)
      | (go_at_call 179;refine(HOF.out _ (by assumption)).mono ?_;rintro e wb ⟨rfl,hxb,hxb2⟩;have kb2:wb.heap[wr.heap.size]?=some (.cells #[.string ⟨#[61]⟩,.int .i64 xi,.int .i64 xj,.int .i64 xb,.bool false] 382):=(by first|exact(hxb2.block _ hAl (fun f=>f)).trans KA.out|exact(hxb2.block _ (z8 ‹_›) (fun f=>f)).trans ‹_›);have vb1:=z6 kb2 1;have vb2:=z6 kb2 2;clear hxb2)
      | (go_at_call 273;refine(HPT.out _ (by assumption)).mono ?_;rintro e wp ⟨Z,ok,rfl,hfin⟩;have HFIN:=q8 hfin;clear hfin)
      | fail))
     all_goals
      obtain⟨f1,f2,f3,f4⟩:=HFIN.out;rw[<- hF] at f3;have F1:=q8 f1;have F2:=q8 f2;have F3:=q8 (HP.out.trans f3);have F5:=q8 f3;have F4:=q8 f4;clear f1 f2 f3 f4 HFIN;cases ok with
      | false=>go_wp2_with fail;go_ret;exact⟨Z,false,rfl,F1.out,F2.out,F3.out,fun e=>by simp at e⟩
      | true=>
       go_wp2_with fail
       go_roundw
       case measure=>simp[intOf];omega
       case rel=>
        refine⟨j+1,by omega,by go_num,Z,F1.out,F2.out,F3.out,fun hn y hy=>?_⟩;rw[List.take_add_one,zm7 HXJ.out] at hy;rcases List.mem_append.1 hy with e|e
        ·obtain⟨n1,n2⟩:=F5.out.news hn;rw[n2];exact HQ.out n1 y e
        ·simp at e;subst e;intro _ _;exact F4.out rfl hn
   all_goals
    go_wp2_with fail
    go_roundw
    case measure=>simp[intOf];omega
    case rel=>
     refine⟨j+1,by omega,by go_num,Y,HR.out.ext ((q9.refl (fun _=>False) wr).alloc _) (fun _ _ f=>f),HX.out.trans ((q9.refl _ wr).alloc _),HP.out,fun hn y hy=>?_⟩;rw[List.take_add_one,zm7 HXJ.out] at hy;rcases List.mem_append.1 hy with e|e
     ·exact HQ.out hn y e
     ·simp at e;subst e;intro e2
      first
       | exact absurd e2 qx9
       | exact absurd e2 qy0
       | exact absurd e2 qy1
  ·have hjl:j=As.length:=by omega
   subst hjl;clear hR hx hP hQ;go_wp2_with fail;go_ret;exact⟨Y,true,rfl,HR.out,HX.out,HP.out,fun _ hn x hx=>HQ.out hn x (by rw[show As.length=(Y8 As).length by simp[Y8],List.take_length];exact hx)⟩
end
end
section
open Go.RowKit Ar
theorem ja7:(prog.info? 382).map (fun i=>(i.zero,i.size,i.bytes))=some (some (.agg #[.string ⟨#[]⟩,.int .i64 0,.int .i64 0,.int .i64 0,.bool false]),5,48):=by kernel_rfl
def zH6(p:Addr)(n:Nat):Sem (Array Value):=loadCellsFrom p 0 n #[]
theorem zp2(p:Addr):loadCellsFrom p 0 681 #[]=zH6 p 681:=rfl
def qP3(ps:Array (Nat × Value)):Sem Value:=Instr.buildSlice 192 1 ps
theorem zK9(ps:Array (Nat × Value)):Instr.buildSlice 192 1 ps=qP3 ps:=rfl
attribute [local go_sem ↓] zp2 zK9
theorem qg4(D:Array Value):∀ (k:Nat) (l:List (Value × Nat)) (C:Array Value),(∀ j,j<l.length->∃ v,l[j]?=some (v,k+j)/\D[k+j]?=some v)->C.size=D.size->k+l.length=D.size->(∀ j,j<k->C[j]?=D[j]?)->l.foldl (fun cs p=>cs.setIfInBounds (0+p.2) p.1) C=D
 | k,[],C,_,hs,hl,hC=>by
  simp at hl;apply Array.ext_getElem?;intro j;by_cases hj:j<k
  ·exact hC j hj
  ·rw[List.foldl_nil,Array.getElem?_eq_none (by omega),Array.getElem?_eq_none (by omega)]
 | k,p::l,C,h,hs,hl,hC=>by
  obtain⟨v,h1,h2⟩:=h 0 (by simp);simp at h1;subst h1;simp only[List.foldl_cons];refine qg4 D (k+1) l _ (fun j hj=>?_) (by simp[hs]) (by simp at hl;omega) (fun j hj=>?_)
  ·obtain⟨v',a1,a2⟩:=h (j+1) (by simp;omega);exact⟨v',by simpa[Nat.add_assoc,Nat.add_comm 1 j] using a1,by rw[show k+1+j=k+(j+1) by omega];exact a2⟩
  ·simp at h2;simp only[Nat.zero_add];rw[J4];simp at hl;by_cases e:k=j
   ·subst e;rw[if_pos rfl,if_pos (by omega)];exact h2.symm
   ·rw[if_neg e];exact hC j (by omega)
theorem zT3(W:World)(D:Array Value)(hD:D.size=681):(qP3 #[(0,.agg D)]).run prog W=.ok (.slice (some ⟨W.heap.size,0,none⟩) 1 1) (W.alloc (.cells D 203)):=by
 obtain⟨i1,hi,hz0,hz1,hz2⟩:=info_parts zH5;have hfill:Instr.fill (fun i=>some (i*681,681)) ((Array.range 681).map (zi0.cells[·%zi0.cells.size]!)) [(0,.agg D)]=some D:=by
  have hc:(Value.agg D).cells=D:=rfl;have hsz:((Array.range 681).map (zi0.cells[·%zi0.cells.size]!)).size=681:=by simp
  simp only[Instr.fill,hc,hD];rw[hsz,if_neg (by simp)];refine congrArg some ?_;simp only[Nat.zero_mul];rw[<- Array.foldl_toList];refine qg4 D 0 _ _ (fun j hj=>?_) (by rw[hsz,hD]) (by simp) (fun j hj=>by omega);simp at hj;exact⟨D[j],by simp[hj],by simp[hj]⟩
 have hsz:∀ W,(sizeOf 203).run prog W=.ok 681 W:=fun W=>by simp[sizeOf,typeInfo,hi,hz1]
 have hzv:∀ W,(zeroValue 203).run prog W=.ok zi0 W:=fun W=>by simp[zeroValue,typeInfo,hi,hz0]
 unfold qP3 Instr.buildSlice;simp only[Sem.run_bind,run_underlying underlying192,Result.andThen_ok,hsz,Nat.one_mul];rw[if_neg (by decide),if_neg (by decide)];simp only[Sem.run_bind,hzv,Result.andThen_ok,Sem.run_pure];rw[hfill];simp[newRow]
theorem zy6(P:Program)(w:World)(p:Addr)(n:Nat)(D:Array Value)(hn:D.size=n)(h:∀ j v,D[j]?=some v->w.cell? (p.add j)=some v):(zH6 p n).run P w=.ok D w:=by subst hn;have:=run_loadCells_list (P:=P) w p D.toList (fun j v hv=>h j v (by simpa using hv));simpa[loadCells,zH6] using this
theorem J9.one{C:Array Value}{o n:Nat}{X:W9}(h:J9 C o n X){q:Nat}(hq:q<681):∃ v,C[o+q]?=some v/\v.oneCell' = true:=by
 by_cases h1:q<676
 ·have hi:q/52<13:=by omega
  have hj:q%52/4<13:=by omega
  have hr:q%4=0\/q%4=1\/q%4=2\/q%4=3:=by omega
  rcases hr with e|e|e|e
  ·exact⟨_,by rw[show o+q=o+q/52*52+q%52/4*4 by omega];exact h.by_ _ _ hi hj,rfl⟩
  ·exact⟨_,by rw[show o+q=o+q/52*52+q%52/4*4+1 by omega];exact h.wa _ _ hi hj,rfl⟩
  ·exact⟨_,by rw[show o+q=o+q/52*52+q%52/4*4+2 by omega];exact h.wb _ _ hi hj,rfl⟩
  ·exact⟨_,by rw[show o+q=o+q/52*52+q%52/4*4+3 by omega];exact h.wc _ _ hi hj,rfl⟩
 ·have hr:q=676\/q=677\/q=678\/q=679\/q=680:=by omega
  rcases hr with rfl|rfl|rfl|rfl|rfl
  ·exact⟨_,h.size,rfl⟩
  ·exact⟨_,h.news,rfl⟩
  ·exact⟨_,h.xa,rfl⟩
  ·exact⟨_,h.xb,rfl⟩
  ·exact⟨_,h.xc,rfl⟩
theorem J9.one_all{C:Array Value}{n:Nat}{X:W9}(h:J9 C 0 n X)(hs:C.size=681):∀ u∈C.toList,u.oneCell' = true:=by
 intro u hu;obtain⟨q,hq,rfl⟩:=List.getElem_of_mem hu;have hq2:q<681:=by simpa[hs] using hq
 obtain⟨v,h1,h2⟩:=h.one hq2;rw[Nat.zero_add] at h1;have:=(Array.getElem?_eq_some_iff.1 h1).2;simp[this,h2]
theorem zp3:zi0.cells.size=681:=by decide +kernel
section
variable{w W:World}{hb g:Nat}{c:ThV}{TK:List Z3}{AK:List PA}{tw:List (Nat × Nat)}{As As':List (PA × Bool)}{TT TT':List W9}
theorem ThR.not_hb(h:ThR w hb g c TK AK tw As TT):¬g=hb/\(∀ k,c.tv.ownBlock=some k\/c.av.ownBlock=some k\/c.wv.ownBlock=some k\/c.sv.ownBlock=some k->¬k=hb/\¬k=g)/\∀ k,c.tv.ownBlock=some k\/c.av.ownBlock=some k\/c.wv.ownBlock=some k->¬c.sv.ownBlock=some k:=by
 obtain⟨cap,C,h1,h2,h3,h4,h5,h6⟩:=h.tb.ex;refine⟨fun e=>?_,fun k hk=>?_,fun k hk hs=>?_⟩
 ·have:=h.blk;rw[<- e,h2] at this;simp at this
 ·rcases hk with hk|hk|hk|hk
  ·exact⟨fun e=>Z7 h.ts h.blk (by decide) (e▸hk),fun e=>Z7 h.ts h2 (by decide) (e▸hk)⟩
  ·exact⟨fun e=>Z7 h.ats h.blk (by decide) (e▸hk),fun e=>Z7 h.ats h2 (by decide) (e▸hk)⟩
  ·exact⟨fun e=>Z7 h.tw h.blk (by decide) (e▸hk),fun e=>Z7 h.tw h2 (by decide) (e▸hk)⟩
  ·exact⟨fun e=>Z7 h.ss h.blk (by decide) (e▸hk),fun e=>Z7 h.ss h2 (by decide) (e▸hk)⟩
 ·obtain⟨cur,hc⟩:=V4 h.ss hs;rcases hk with hk|hk|hk
  ·exact Z7 h.ts hc (by decide) hk
  ·exact Z7 h.ats hc (by decide) hk
  ·exact Z7 h.tw hc (by decide) hk
theorem ThR.turnS{sv:Value}(h:ThR w hb g c TK AK tw As TT)(hx:q9 (fun k=>k=hb\/c.sv.ownBlock=some k) w W)(kb:W.heap[hb]?=some (.cells #[c.tv,c.av,c.wv,sv,c.bv] 194))(hs:W.ownsRow 0 382 5 sv As'.length (X1 As')):ThR W hb g ⟨c.tv,c.av,c.wv,sv,c.bv⟩ TK AK tw As' TT:=by
 obtain⟨n1,n2,n3⟩:=h.not_hb;obtain⟨cap,C,h1,h2,h3⟩:=h.tb.ex;refine⟨kb,z7 h.ts hx (fun k hk e=>?_),z7 h.ats hx (fun k hk e=>?_),z7 h.tw hx (fun k hk e=>?_),hs,⟨cap,C,h1,(hx.block _ (z8 h2) (fun e=>?_)).trans h2,h3⟩⟩
 ·exact e.elim (n2 k (.inl hk)).1 (n3 k (.inl hk))
 ·exact e.elim (n2 k (.inr (.inl hk))).1 (n3 k (.inr (.inl hk)))
 ·exact e.elim (n2 k (.inr (.inr (.inl hk)))).1 (n3 k (.inr (.inr hk)))
 ·exact e.elim n1 (fun e=>(n2 g (.inr (.inr (.inr e)))).2 rfl)
theorem ThR.turnB{bv:Value}{g':Nat}(h:ThR w hb g c TK AK tw As TT)(hx:q9 (fun k=>k=hb\/k=g) w W)(kb:W.heap[hb]?=some (.cells #[c.tv,c.av,c.wv,c.sv,bv] 194))(hs:zw0 W bv g' (TK.length+1) TT'):ThR W hb g' ⟨c.tv,c.av,c.wv,c.sv,bv⟩ TK AK tw As TT':=by
 obtain⟨n1,n2,n3⟩:=h.not_hb;refine⟨kb,z7 h.ts hx (fun k hk e=>?_),z7 h.ats hx (fun k hk e=>?_),z7 h.tw hx (fun k hk e=>?_),z7 h.ss hx (fun k hk e=>?_),hs⟩
 ·exact e.elim (n2 k (.inl hk)).1 (n2 k (.inl hk)).2
 ·exact e.elim (n2 k (.inr (.inl hk))).1 (n2 k (.inr (.inl hk))).2
 ·exact e.elim (n2 k (.inr (.inr (.inl hk)))).1 (n2 k (.inr (.inr (.inl hk)))).2
 ·exact e.elim (n2 k (.inr (.inr (.inr hk)))).1 (n2 k (.inr (.inr (.inr hk)))).2
theorem ThR.pushS{w0 w3:World}{gs cap:Nat}{x:PA}{yes:Bool}(h:ThR w hb g c TK AK tw As TT)(h0:q9 (fun _=>False) w w0)(hgrow:w0.grownBy w3 c.sv.ownBlock)(hown:w3.ownsRow 0 382 5 (.slice (some ⟨gs,0,none⟩) (As.length+1) cap) (As.length+1) (X1 As++[.string x.wd,.int .i64 x.i,.int .i64 x.j,.int .i64 x.b,.bool yes])):
  ThR (w3.setCell ⟨hb,3,none⟩ (.slice (some ⟨gs,0,none⟩) (As.length+1) cap)) hb g ⟨c.tv,c.av,c.wv,.slice (some ⟨gs,0,none⟩) (As.length+1) cap,c.bv⟩ TK AK tw (As++[(x,yes)]) TT/\q9 (fun k=>k=hb\/c.sv.ownBlock=some k) w (w3.setCell ⟨hb,3,none⟩ (.slice (some ⟨gs,0,none⟩) (As.length+1) cap)):=by
 obtain⟨n1,n2,n3⟩:=h.not_hb;have h2:q9 (fun k=>c.sv.ownBlock=some k) w w3:=(h0.mono (fun _ _ f=>f.elim)).grown hgrow (fun k hk _=>hk);have hW:q9 (fun k=>k=hb) w3 (w3.setCell ⟨hb,3,none⟩ (.slice (some ⟨gs,0,none⟩) (As.length+1) cap)):=(q9.refl (fun k=>k=hb) w3).setCell (p:=⟨hb,3,none⟩) (fun _=>rfl) _;have hx:q9 (fun k=>k=hb\/c.sv.ownBlock=some k) w (w3.setCell ⟨hb,3,none⟩ (.slice (some ⟨gs,0,none⟩) (As.length+1) cap)):=(h2.mono (fun _ _ e=>.inr e)).trans' hW (fun _ _ e=>.inl e);have kb3:=(h2.block hb (z8 h.blk) (fun e=>(n2 hb (.inr (.inr (.inr e)))).1 rfl)).trans h.blk;refine⟨h.turnS hx (Y4 kb3 3 _) ?_,hx⟩;have e:X1 (As++[(x,yes)])=X1 As++[.string x.wd,.int .i64 x.i,.int .i64 x.j,.int .i64 x.b,.bool yes]:=by simp[X1,PA.cells]
 rw[e,List.length_append,List.length_singleton];exact z7 hown hW (fun k hk e=>Z7 hown kb3 (by decide) (e▸hk))
theorem ThR.pushB{w0 w3:World}{g' cap:Nat}{X:W9}{C:Array Value}(h:ThR w hb g c TK AK tw As (TT++[X]))(kg:w.heap[g]?=some (.cells C 203))(h0:q9 (fun _=>False) w w0)(hgrow:w0.grownBy w3 (some g))(hown:w3.ownsRow 0 203 681 (.slice (some ⟨g',0,none⟩) (TT.length+1+1) cap) (TT.length+1+1) (C.toList.take ((TT.length+1)*681)++(C.extract (TT.length*681) (TT.length*681+681)).toList)):
  ThR (w3.setCell ⟨hb,4,none⟩ (.slice (some ⟨g',0,none⟩) (TT.length+1+1) cap)) hb g' ⟨c.tv,c.av,c.wv,c.sv,.slice (some ⟨g',0,none⟩) (TT.length+1+1) cap⟩ TK AK tw As (TT++[X]++[X])/\q9 (fun k=>k=hb\/k=g) w (w3.setCell ⟨hb,4,none⟩ (.slice (some ⟨g',0,none⟩) (TT.length+1+1) cap)):=by
 obtain⟨n1,n2,n3⟩:=h.not_hb;obtain⟨cap0,C0,h1,h2',h3,h4,h5,h6⟩:=h.tb.ex;rw[kg] at h2';obtain rfl:C=C0:=by simpa using h2'
 have h2:q9 (fun k=>k=g) w w3:=(h0.mono (fun _ _ f=>f.elim)).grown hgrow (fun k hk _=>by simpa using hk.symm);have hW:q9 (fun k=>k=hb) w3 (w3.setCell ⟨hb,4,none⟩ (.slice (some ⟨g',0,none⟩) (TT.length+1+1) cap)):=(q9.refl (fun k=>k=hb) w3).setCell (p:=⟨hb,4,none⟩) (fun _=>rfl) _;have hx:q9 (fun k=>k=hb\/k=g) w (w3.setCell ⟨hb,4,none⟩ (.slice (some ⟨g',0,none⟩) (TT.length+1+1) cap)):=(h2.mono (fun _ _ e=>.inr e)).trans' hW (fun _ _ e=>.inl e);have kb3:=(h2.block hb (z8 h.blk) (fun e=>n1 e.symm)).trans h.blk;refine⟨h.turnB hx (Y4 kb3 4 _) ?_,hx⟩;have hl:(TT++[X]).length=TT.length+1:=by simp
 rw[hl] at h4;refine zw0.push (C:=C) (D:=C.extract (TT.length*681) (TT.length*681+681)) (m:=TT.length+1) h6 rfl (by simp) ?_ ((h6 TT.length X (by simp)).cut) rfl ?_
 ·have e:C.toList.length=cap0*681:=by rw[<- h3];simp
  rw[List.length_take,e];have:=Nat.mul_le_mul_right 681 h4;omega
 ·exact z7 hown hW (fun k hk e=>Z7 hown kb3 (by decide) (e▸hk))
end
end
section
open Go.RowKit Ar
theorem zZ0{w:World}{e size n k cap:Nat}{a:Option Addr}{xs:List Value}(h:w.ownsRow 0 e size (.slice a n cap) n xs)(hk:k<=n):w.ownsRow 0 e size (.slice a k cap) k (xs.take (k*size)):=by
 have hm:=Nat.mul_le_mul_right size hk;refine⟨by rw[List.length_take,h.1];omega,?_⟩;rcases h.2 with⟨e1,e2⟩|⟨g,cap',cur,hv,h1,h2,h3,h4,h5,h6⟩
 ·have:k=0:=by omega
  subst this;simp at e1;exact .inl ⟨by simp[e1],rfl⟩
 ·refine .inr ⟨g,cap',cur,by simp at hv ⊢;exact hv,h1,h2,by omega,h4,h5,?_⟩;rw[<- h6,List.take_take,Nat.min_eq_left hm]
theorem zL0:∀ l:List (PA × Bool),(X1 l).length=l.length*5
 | []=>rfl
 | a::b=>by have ih:=zL0 b;simp only[X1,List.flatMap_cons,List.length_append] at ih ⊢;simp[PA.cells] at ih ⊢;omega
theorem qE8(As:List (PA × Bool))(k:Nat):(X1 As).take (k*5)=X1 (As.take k):=by
 by_cases hk:k<=As.length
 ·conv=>lhs;rw[<- List.take_append_drop k As]
  have e:X1 (As.take k++As.drop k)=X1 (As.take k)++X1 (As.drop k):=by simp only[X1,List.flatMap_append]
  rw[e,List.take_left'];rw[zL0,List.length_take,Nat.min_eq_left hk]
 ·rw[List.take_of_length_le (by rw[zL0];omega),List.take_of_length_le (by omega)]
section
variable{w:World}{hb g:Nat}{c:ThV}{TK:List Z3}{AK:List PA}{tw:List (Nat × Nat)}{As:List (PA × Bool)}{TT:List W9}{X:W9}
theorem zw0.cut{bv:Value}{n k:Nat}(h:zw0 w bv g n TT)(hk:k<=TT.length):∃ cap,bv=.slice (some ⟨g,0,none⟩) TT.length cap/\TT.length<=cap/\zw0 w (.slice (some ⟨g,0,none⟩) k cap) g n (TT.take k):=by obtain⟨cap,C,h1,h2,h3,h4,h5,h6⟩:=h.ex;refine⟨cap,h1,h4,⟨cap,C,?_,h2,h3,by rw[List.length_take];omega,h5,fun j Y hj=>h6 j Y (U8 hj).2⟩⟩;rw[List.length_take,Nat.min_eq_left hk]
def BkC(w:World)(hb g:Nat)(c:ThV)(TK:List Z3)(AK:List PA)(tw:List (Nat × Nat))(As:List (PA × Bool))(TT:List W9)(n:Nat)(w':World):Prop :=
 ∃ sv bv,ThR w' hb g ⟨c.tv,c.av,c.wv,sv,bv⟩ TK AK tw (As.take n) (TT.take (n+1))/\sv.ownBlock=c.sv.ownBlock/\q9 (fun k=>k=hb) w w'
theorem qE9{sa:Option Addr}{sc cap n:Nat}(h:ThR w hb g c TK AK tw As TT)(hsv:c.sv=.slice sa As.length sc)(hbv:c.bv=.slice (some ⟨g,0,none⟩) TT.length cap)(hn:n<=As.length)(hn2:n+1<=TT.length):
  BkC w hb g c TK AK tw As TT n ((w.setCell ⟨hb,3,none⟩ (.slice sa n sc)).setCell ⟨hb,4,none⟩ (.slice (some ⟨g,0,none⟩) (n+1:Nat) cap)):=by
 obtain⟨n1,n2,n3⟩:=h.not_hb;have hx:q9 (fun k=>k=hb) w ((w.setCell ⟨hb,3,none⟩ (.slice sa n sc)).setCell ⟨hb,4,none⟩ (.slice (some ⟨g,0,none⟩) (n+1:Nat) cap)) :=
  ((q9.refl (fun k=>k=hb) w).setCell (p:=⟨hb,3,none⟩) (fun _=>rfl) _).setCell (p:=⟨hb,4,none⟩) (fun _=>rfl) _
 obtain⟨cap',e1,_,hb'⟩:=h.tb.cut hn2;rw[hbv] at e1;obtain rfl:cap=cap':=by simpa using e1
 refine⟨.slice sa n sc,.slice (some ⟨g,0,none⟩) (n+1:Nat) cap,⟨Y4 (Y4 h.blk 3 _) 4 _,z7 h.ts hx (fun k hk e=>(n2 k (.inl hk)).1 e),z7 h.ats hx (fun k hk e=>(n2 k (.inr (.inl hk))).1 e),z7 h.tw hx (fun k hk e=>(n2 k (.inr (.inr (.inl hk)))).1 e),?_,?_⟩,?_,hx⟩
 ·have ho:=h.ss;rw[hsv] at ho;have:=zZ0 ho hn;rw[qE8] at this;have e:(As.take n).length=n:=by rw[List.length_take];omega
  rw[e];refine z7 this hx (fun k hk e=>(n2 k (.inr (.inr (.inr ?_)))).1 e);rw[hsv];cases sa with
  | none=>simp[Value.ownBlock] at hk
  | some ad=>simpa[Value.ownBlock] using hk
 ·obtain⟨cap2,C,q1,q2,q3⟩:=hb'.ex;exact⟨cap2,C,q1,(hx.block _ (z8 q2) n1).trans q2,q3⟩
 ·rw[hsv];cases sa<;>rfl
theorem qP4{n:Nat}(h:ThR w hb g c TK AK tw As TT)(hn:n<=As.length)(hn2:n+1<=TT.length)(hT:TT.length<=1000):
  Calls prog 254 #[.pointer (some ⟨hb,0,none⟩),.int .i64 n] w fun e w'=>(∃ v,e=.returned v)/\BkC w hb g c TK AK tw As TT n w':=by
 have kb:=h.blk;obtain⟨sa,sc,hsv⟩:=Q0 h.ss;obtain⟨cap,hbv,hcap,_⟩:=h.tb.cut hn2;have HD:=q8 (qE9 h hsv hbv hn hn2);have hsc:As.length<=sc/\sc<=maxLen:=by
  rcases h.ss.2 with⟨e,e0⟩|⟨g',cap',cur,hv,_,hh,h1,h2,_⟩
  ·rw[hsv] at e;simp at e;omega
  ·rw[hsv] at hv;simp at hv;omega
 have hcm:cap<=maxLen:=by obtain⟨cap',C,e1,_,_,_,e2,_⟩:=h.tb.ex;rw[hbv] at e1;simp at e1;omega
 unfold maxLen at hsc hcm;rw[hsv,hbv] at kb;have c3:=z6 kb 3;have f3:=Q8 kb 3;have c4:=z6 kb 4;have f4:=Q8 kb 4;have hbl:=z8 kb;have hs1:=hsc.1;have hs2:=hsc.2;clear h kb hsv hbv hsc;go_enter func254,ntmps254;go_wp2_with fail
 go_end0
 exact⟨⟨_,rfl⟩,HD.out⟩
theorem qg5(h:ThR w hb g c TK AK tw As (TT++[X]))(hl:TT.length<=500):
  Calls prog 255 #[.pointer (some ⟨hb,0,none⟩)] w fun e w'=>e=.returned (.agg #[.int .u64 X.wrong.a.toNat,.int .u64 X.wrong.b.toNat,.int .u64 X.wrong.c.toNat])/\q9 (fun _=>False) w w':=by
 obtain⟨W,hW⟩:∃ W,w.alloc (.cells #[.int .u64 0,.int .u64 0,.int .u64 0] 197)=W:=⟨_,rfl⟩;have hxW:q9 (fun _=>False) w W:=by rw[<- hW];exact(q9.refl _ w).alloc _
 have kM:W.heap[w.heap.size]?=some (.cells #[.int .u64 0,.int .u64 0,.int .u64 0] 197):=by rw[<- hW];exact heap_alloc_new w _
 have hRW:=h.ext hxW (fun _ _ f=>f);obtain⟨C,kg,hT,_⟩:=hRW.tab;have x0:W.cell? ⟨g,TT.length*681+678,none⟩=some (.int .u64 X.wrong.a.toNat):=(z6 kg _).trans hT.xa;have x1:W.cell? ⟨g,TT.length*681+678+1,none⟩=some (.int .u64 X.wrong.b.toNat):=(z6 kg _).trans hT.xb;have x2:W.cell? ⟨g,TT.length*681+678+2,none⟩=some (.int .u64 X.wrong.c.toNat):=(z6 kg _).trans hT.xc;have HN:=q8 (zg5 hRW (by simp) (by simp;omega));rw[List.length_append,List.length_singleton,Nat.add_sub_cancel] at HN;obtain⟨m,hm⟩:∃ m,TT.length*681=m:=⟨_,rfl⟩;rw[hm] at HN x0 x1 x2;have hgl:=z8 kg;have m0:=z6 kM 0;have m1:=z6 kM 1;have m2:=z6 kM 2;have y0:=Q8 kM 0;have y1:=Q8 kM 1;have y2:=Q8 kM 2;have hml:=z8 kM;have HWE:=q8 hW;have HXW:=q8 hxW;clear h kg hT hm hRW kM hW hxW;go_enter func255,ntmps255;go_wp2_with fail;rw[HWE.out];refine HN.out.mono ?_;rintro e w1 ⟨rfl,rfl⟩;go_wp2_with fail;refine bodyPost_ret (v:=.agg #[.int .u64 X.wrong.a.toNat,.int .u64 X.wrong.b.toNat,.int .u64 X.wrong.c.toNat]) (by simp[results,results255,go_sem,m0,m1,m2]) rfl ⟨rfl,?_⟩;exact(HXW.out.drew).trans' (ze3 _ _ _ _ _) (fun i hi e=>by have h1:i=w.heap.size:=e;omega)
end
theorem J6{TK:List Z3}{q:Nat}{x:Z3}(h:TK[q]?=some x){j:Nat}{u:Value}(hu:x.cells[j]?=some u):(TK.flatMap Z3.cells)[q*6+j]?=some u:=by
 have hk:=(List.getElem?_eq_some_iff.1 h).1;have e:TK=TK.take q++x::TK.drop (q+1):=by have e1:=(List.take_append_drop q TK).symm;rw[List.drop_eq_getElem_cons hk,(List.getElem?_eq_some_iff.1 h).2] at e1;exact e1
 have hl:∀ l:List Z3,(l.flatMap Z3.cells).length=l.length*6:=by
  intro l
  induction l with
  | nil=>rfl
  | cons a b ih=>simp only[List.flatMap_cons,List.length_append] at ih ⊢;simp[Z3.cells] at ih ⊢;omega
 have e2:TK.flatMap Z3.cells=(TK.take q).flatMap Z3.cells++(x.cells++(TK.drop (q+1)).flatMap Z3.cells):=by
  conv=>lhs;rw[e]
  simp
 have hj:j<6:=(List.getElem?_eq_some_iff.1 hu).1;rw[e2,List.getElem?_append_right (by rw[hl,List.length_take];have:=Nat.min_eq_left (Nat.le_of_lt hk);omega),hl,List.length_take,Nat.min_eq_left (Nat.le_of_lt hk),Nat.add_sub_cancel_left,List.getElem?_append_left hj];exact hu
def ze2(x:Z3):Array Value:=#[.string x.nm,.int .i64 x.ar,.int .i64 x.a0,.int .i64 x.a1,.int .i64 x.a2,.int .i64 x.v]
section
variable{w:World}{hb g:Nat}{c:ThV}{TK:List Z3}{AK:List PA}{tw:List (Nat × Nat)}{As:List (PA × Bool)}{TT:List W9}
theorem ThR.term(h:ThR w hb g c TK AK tw As TT){q:Nat}{x:Z3}(hx:TK[q]?=some x):∃ gt tc,c.tv=.slice (some ⟨gt,0,none⟩) TK.length tc/\gt<w.heap.size/\w.cell? ⟨gt,q*6,none⟩=some (.string x.nm)/\w.cell? ⟨gt,q*6+1,none⟩=some (.int .i64 x.ar)/\w.cell? ⟨gt,q*6+2,none⟩=some (.int .i64 x.a0)/\w.cell? ⟨gt,q*6+3,none⟩=some (.int .i64 x.a1)/\w.cell? ⟨gt,q*6+4,none⟩=some (.int .i64 x.a2)/\w.cell? ⟨gt,q*6+5,none⟩=some (.int .i64 x.v):=by
 have hq:=(List.getElem?_eq_some_iff.1 hx).1;rcases h.ts.2 with⟨_,e0⟩|⟨gt,cap,cur,hv,_,hh,_⟩
 ·omega
 ·have ho:=h.ts;rw[hv] at ho;exact⟨gt,cap,hv,z8 hh,(ho.cellAt (q*6) (by omega)).trans (J6 hx (j:=0) rfl),(ho.cellAt (q*6+1) (by omega)).trans (J6 hx rfl),(ho.cellAt (q*6+2) (by omega)).trans (J6 hx rfl),(ho.cellAt (q*6+3) (by omega)).trans (J6 hx rfl),(ho.cellAt (q*6+4) (by omega)).trans (J6 hx rfl),(ho.cellAt (q*6+5) (by omega)).trans (J6 hx rfl)⟩
end
section
variable{w:World}{hb g:Nat}{c:ThV}{TK:List Z3}{AK:List PA}{tw:List (Nat × Nat)}{As:List (PA × Bool)}{TT:List W9}
theorem qg1(h:ThR w hb g c TK AK tw As TT){a b:Nat}{x y:Z3}(hx:TK[a]?=some x)(hy:TK[b]?=some y):
  Calls prog 271 #[.pointer (some ⟨hb,0,none⟩),.agg #[.int .i64 a,.int .i64 b]] w fun e w'=>∃ p q,e=.returned (.func (.func 275) #[] #[.pointer (some ⟨p,0,none⟩),.pointer (some ⟨q,0,none⟩)])/\w.heap.size<=p/\w.heap.size<=q/\q9 (fun _=>False) w w'/\w'.heap[p]?=some (.cells (ze2 x) 145)/\w'.heap[q]?=some (.cells (ze2 y) 145):=by
 obtain⟨W,hW⟩:∃ W,w.alloc (.cells #[.int .i64 a,.int .i64 b] 151)=W:=⟨_,rfl⟩;have hxW:q9 (fun _=>False) w W:=by rw[<- hW];exact(q9.refl _ w).alloc _
 have kT:W.heap[w.heap.size]?=some (.cells #[.int .i64 a,.int .i64 b] 151):=by rw[<- hW];exact heap_alloc_new w _
 have hRW:=h.ext hxW (fun _ _ f=>f);obtain⟨gt,tc,htv,hgl,x0,x1,x2,x3,x4,x5⟩:=hRW.term hx;obtain⟨gt',tc',htv',_,y0,y1,y2,y3,y4,y5⟩:=hRW.term hy;rw[htv] at htv';simp at htv';obtain⟨rfl,rfl⟩:=htv';have kb:=hRW.blk;rw[htv] at kb;have c0:=z6 kb 0;have p0:=z6 kT 0;have p1:=z6 kT 1;have ha:=(List.getElem?_eq_some_iff.1 hx).1;have hbb:=(List.getElem?_eq_some_iff.1 hy).1;have hai:(a:Int)<TK.length:=by omega
 have hbi:(b:Int)<TK.length:=by omega
 have hbl:=z8 kb;have htl:=z8 kT;have HWE:=q8 hW;have HXW:=q8 hxW;clear h hRW kb kT hW hxW htv;go_enter func271,ntmps271;go_wp2_with fail;rw[HWE.out]
 go_region
 all_goals
  go_wp2_with fail;go_ret
  first
   | exact⟨W.heap.size,W.heap.size+1,rfl,HXW.out.size,Nat.le_succ_of_le HXW.out.size,((HXW.out.alloc _).alloc _).drew,(heap_alloc_old _ _ (by simp)).trans (heap_alloc_new W _),heap_alloc2_new W _ _⟩
   | exact⟨W.heap.size+1,W.heap.size,rfl,Nat.le_succ_of_le HXW.out.size,HXW.out.size,((HXW.out.alloc _).alloc _).drew,heap_alloc2_new W _ _,(heap_alloc_old _ _ (by simp)).trans (heap_alloc_new W _)⟩
end
end
end Go.Proofs.YtegbdaffhpiacaaGreatDoor
