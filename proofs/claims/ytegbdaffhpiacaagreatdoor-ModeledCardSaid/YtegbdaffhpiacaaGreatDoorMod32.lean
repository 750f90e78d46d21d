/- A part of the proof. -/
import Derived.Test.YtegbdaffhpiacaaGreatDoorMod31
import Derived.Test.YtegbdaffhpiacaaGreatDoorMod26
set_option maxRecDepth 100000
set_option maxHeartbeats 1000000
namespace Go.Proofs.YtegbdaffhpiacaaGreatDoor
open Go.Proofs.Tryz hiding parts
section
open Go.RowKit Ar
section
variable{TK:List Z3}{AK:List PA}
theorem qY6{n:Nat}{far:Int}{V:(Nat->Int)->Prop}{H:Nat->(Nat->Int)->Prop}{X Y:W9}{ok:Bool}(h:TPost n far V H 0 X Y ok)(hV:∃ v,V v):ok=true:=by
 cases ok with
 | false=>obtain⟨h1,h2⟩:=h.bad rfl;obtain⟨v,hv⟩:=hV;exact absurd (fun k hk=>absurd (h1 k hk) (by omega)) (h2 v hv)
 | true=>rfl
structure StT(F:Fx)(j:Nat)(X:W9):Prop where
 inv:V9 (F.n+1) F.far F.V (HA []) 0 X.t
 num:∀ i x,i<j->F.num i=some x->X.t.by_ i F.n<=x/\X.t.by_ F.n i <= -x
theorem qv8{F:Fx}(hf:0<=F.far):StT F 0 ⟨zv6 (F.n+1) F.far (F.n+1) 0,false,M3.none⟩:=by
 refine⟨⟨fun i hi=>?_,fun i j k hi hj hk=>?_,fun i j hi hj=>?_,fun i j hi hj=>?_,fun i j hi hj v hv _=>?_⟩,fun i x hi=>absurd hi (Nat.not_lt_zero i)⟩
 ·show(if _ then _ else _)=_;rw[if_neg (by omega)]
 ·show(if _ then _ else _)<=(if _ then _ else _)+(if _ then _ else _);by_cases h1:i=k
  ·rw[if_neg (by omega)];split<;>split<;>omega
  ·rw[if_pos (by omega)];by_cases h2:i=j
   ·rw[if_neg (by omega),if_pos (by omega)];omega
   ·rw[if_pos (by omega)];split<;>omega
 ·show(if _ then _ else _)<=_;split<;>omega
 ·exact J8.none 0
 ·show _<=(if _ then _ else _);by_cases h1:i=j
  ·subst h1;rw[if_neg (by omega)];omega
  ·rw[if_pos (by omega)];exact hv.near i j (by omega) (by omega)
theorem StT.skip{F:Fx}{j:Nat}{X:W9}(h:StT F j X)(hn:F.num j=none):StT F (j+1) X:=by
 refine⟨h.inv,fun i x hi e=>?_⟩;by_cases hij:i=j
 ·subst hij;rw[hn] at e;simp at e
 ·exact h.num i x (by omega) e
theorem StT.take{F:Fx}{j:Nat}{X Y Z:W9}{x:Int}{a b:Bool}(h:StT F j X)(hj:j<F.n)(hn:F.num j=some x)(h1:TPost (F.n+1) F.far F.V (HA []) 0 X Y a)(h2:TPost (F.n+1) F.far F.V (HA []) 0 Y Z b)(hb:b=true)(l1:Y.t.by_ j F.n<=x)(l2:Z.t.by_ F.n j <= -x):StT F (j+1) Z:=by
 refine⟨h2.inv hb,fun i y hi e=>?_⟩;by_cases hij:i=j
 ·subst hij;rw[hn] at e;obtain rfl:x=y:=by simpa using e
  exact⟨Int.le_trans (h2.le i F.n (by omega) (by omega)) l1,l2⟩
 ·obtain⟨e1,e2⟩:=h.num i y (by omega) e;exact⟨Int.le_trans (h2.le i F.n (by omega) (by omega)) (Int.le_trans (h1.le i F.n (by omega) (by omega)) e1),Int.le_trans (h2.le F.n i (by omega) (by omega)) (Int.le_trans (h1.le F.n i (by omega) (by omega)) e2)⟩
theorem StT.thg{F:Fx}{X:W9}(h:StT F F.n X):ThG F [] X:=⟨h.inv,by simp[Y8],fun i x hi e=>h.num i x hi e⟩
theorem jj8{j:Nat}{x:Z3}(h:TK[j]?=some x)(hx:x.nm=⟨#[]⟩):(zi3 TK AK).num j=some x.v:=by show numOf TK j=_;unfold numOf;rw[h];simp[hx]
theorem jr3{j:Nat}{x:Z3}(h:TK[j]?=some x)(hx:¬x.nm=⟨#[]⟩):(zi3 TK AK).num j=none:=by show numOf TK j=_;unfold numOf;rw[h];simp[hx]
end
end
section
open Go.RowKit Ar
attribute [local go_sem ↓] zp2 zK9
section
variable{w:World}{tv av:Value}{TK:List Z3}{AK:List PA}
theorem qY7{s:ByteArray}(h:¬s=⟨#[]⟩):s.toList.isEmpty=false:=by
 cases e:s.toList.isEmpty with
 | false=>rfl
 | true=>exact absurd (O6 (by rw[List.isEmpty_iff.1 e,ByteArray.toList_eq])) h
theorem zX9{W:World}{x:Z3}(h:x.nm=⟨#[]⟩):Calls prog 62 #[.agg #[.string x.nm,.int .i64 x.ar,.int .i64 x.a0,.int .i64 x.a1,.int .i64 x.a2,.int .i64 x.v]] W fun e w'=>e=.returned (.bool true)/\q9 (fun _=>False) W w':=by
 rw[h];have HX:Hid (∀ o,q9 (fun _=>False) W (W.alloc o)):=fun o=>(q9.refl _ W).alloc o
 go_enter func62,ntmps62;go_wp2_with fail;go_ret;exact⟨rfl,HX.out _⟩
theorem qn2{W:World}{x:Z3}(h:¬x.nm=⟨#[]⟩):Calls prog 62 #[.agg #[.string x.nm,.int .i64 x.ar,.int .i64 x.a0,.int .i64 x.a1,.int .i64 x.a2,.int .i64 x.v]] W fun e w'=>e=.returned (.bool false)/\q9 (fun _=>False) W w':=by
 have hne:=qY7 h;have HX:Hid (∀ o,q9 (fun _=>False) W (W.alloc o)):=fun o=>(q9.refl _ W).alloc o
 go_enter func62,ntmps62;go_wp2_with fail;go_ret;exact⟨rfl,HX.out _⟩
theorem qM8(hts:w.ownsRow 0 145 6 tv TK.length (TK.flatMap Z3.cells))(hats:w.ownsRow 0 153 4 av AK.length (AK.flatMap PA.cells))(hT:TK.length<=12)(hA:AK.length<=16)(hK:KOk TK AK)(hV:∃ v,(zi3 TK AK).V v):
  Calls prog 61 #[tv,av] w fun e w'=>∃ hb g c X,e=.returned (.pointer (some ⟨hb,0,none⟩))/\q9 (fun _=>False) w w'/\w.heap.size<=hb/\w.heap.size<=g/\c.sv=.slice none 0 0/\ThR w' hb g c TK AK (zQ0 TK) [] [X]/\ThG (zi3 TK AK) [] X:=by
 obtain⟨ta,tc,rfl⟩:=Q0 hts;obtain⟨aa,ac,rfl⟩:=Q0 hats;obtain⟨i1,hi,hz0,hz1,hz2⟩:=info_parts zH5;obtain⟨Z,hZ⟩:∃ Z,zi0.cells=Z:=⟨_,rfl⟩;have hZs:Z.size=681:=by rw[<- hZ];exact zp3
 have hzz:∀ W,(zeroValue 203).run prog W=.ok (.agg Z) W:=fun W=>by
  rw[<- hZ];simp[zeroValue,typeInfo,hi,hz0]
  rfl
 have HTW:Hid (∀ W,q9 (fun _=>False) w W->Calls prog 96 #[.slice ta TK.length tc] W fun e w'=>∃ v,e=.returned v/\TwS W w' v (zQ0 TK)):=fun W hx=>qM1 (z7 hts hx (fun _ _ f=>f)) hT hK.ar
 have HRE:Hid (∀ W,q9 (fun _=>False) w W->Calls prog 98 #[.slice ta TK.length tc,.slice aa AK.length ac] W fun e w'=>e=.returned (.int .i64 (ze6 TK AK))/\q9 (fun _=>False) W w'):=fun W hx=>qM0 (z7 hts hx (fun _ _ f=>f)) (z7 hats hx (fun _ _ f=>f)) hT hA hK.v hK.b
 have HTS:=q8 hts;have HAS:=q8 hats;have HK:=q8 hK;have HV:=q8 hV;have HI:=q8 hi;clear hts hats hK hV hZ;go_enter func61,ntmps61;go_wp2_with fail;refine(HTW.out w (q9.refl _ _)).mono ?_;rintro e w1 ⟨wv,rfl,hS1⟩;obtain⟨wa,wc,rfl⟩:=Q0 hS1.2.1;obtain⟨nt,hnt⟩:∃ nt,(zQ0 TK).length=nt:=⟨_,rfl⟩;rw[hnt] at hS1;rw[hnt];have HNT:=q8 hnt;clear hnt;have HS1:=q8 hS1;have hx1:=hS1.1;have hs1:=hx1.size;obtain⟨W1,hW1⟩:∃ W1,w1.alloc (.cells #[.slice ta TK.length tc,.slice aa AK.length ac,.slice wa nt wc,.slice none 0 0,.slice none 0 0] 194)=W1:=⟨_,rfl⟩;have HX1:Hid (q9 (fun _=>False) w W1):=by rw[<- hW1];exact hx1.alloc _
 have KB:Hid (W1.heap[w1.heap.size]?=some (.cells #[.slice ta TK.length tc,.slice aa AK.length ac,.slice wa nt wc,.slice none 0 0,.slice none 0 0] 194)):=by rw[<- hW1];exact heap_alloc_new w1 _
 have HW1:=q8 hW1;have hW1s:W1.heap.size=w1.heap.size+1:=by rw[<- hW1];simp
 clear hS1 hx1 hW1;go_wp2_with fail;rw[HW1.out];refine(HRE.out W1 HX1.out).mono ?_;rintro e w2 ⟨rfl,hx2⟩;have HX2:=q8 hx2;have hs2:=hx2.size;clear hx2;go_wp2_with fail;have hN:=qd0 (w:=w2) (TK.length+1) (by omega) (ze6 TK AK);rw[show((TK.length+1:Nat):Int)=(TK.length:Int)+1 by omega] at hN;refine hN.mono ?_;rintro e w3 ⟨C,rfl,hCs,hCT,hx3⟩;have hC1:C.all (·.oneCell')=true:=by rw[Array.all_eq_true_iff_forall_mem];intro u hu;exact hCT.one_all hCs u (by simpa using hu)
 have hst:=fun W=>run_storeCells_new (P:=prog) W 203 Z C (by rw[HI.out];simp[hz1,hCs]) (by omega) hC1
 have HCT:=q8 hCT;have HX3:=q8 hx3;have hs3:=hx3.size;clear hCT hx3 hN;have hst3:=hst w3;go_wp2_with fail;obtain⟨W4,hW4⟩:∃ W4,w3.alloc (.cells C 203)=W4:=⟨_,rfl⟩;have HX4:Hid (q9 (fun _=>False) W1 W4):=by rw[<- hW4];exact(HX2.out.trans HX3.out).alloc _
 have KC:Hid (W4.heap[w3.heap.size]?=some (.cells C 203)):=by rw[<- hW4];exact heap_alloc_new w3 _
 have hW4s:W4.heap.size=w3.heap.size+1:=by rw[<- hW4];simp
 obtain⟨st,hst0⟩:∃ st,w3.heap.size=st:=⟨_,rfl⟩;rw[hW4];rw[hst0] at KC hW4s ⊢;have HSW:Hid (w1.heap.size+1<=st):=by show w1.heap.size+1<=st;omega
 clear hW4 hst hst3 hst0 hs3
 go_loopw [27] (fun i wr=>∃ j:Nat,j<=TK.length/\i=.int .i64 j/\∃ C X,q9 (fun k=>k=st) W4 wr/\wr.heap[st]?=some (.cells C 203)/\C.size=681/\J9 C 0 (TK.length+1) X/\StT (zi3 TK AK) j X) (fun i _=>TK.length-(intOf i).toNat)
 case atStart=>exact⟨0,Nat.zero_le _,rfl,C,_,q9.refl _ _,KC.out,hCs,HCT.out,qv8 (F:=zi3 TK AK) (HK.out.far hT).1⟩
 case round=>
  clear KC HCT hCs hC1;obtain⟨j,hj,rfl,C1,X,hx,kC,hCs,hT1,hS⟩:=hrel;have hsx:=hx.size;have HX:=q8 hx;have KC:=q8 kC;have HT1:=q8 hT1;have HSX:=q8 hS;clear hx kC hT1 hS;by_cases hlt:j<TK.length
  ·obtain⟨x,hxj⟩:∃ x,TK[j]?=some x:=⟨_,List.getElem?_eq_getElem hlt⟩;obtain⟨gt,rfl,hgl⟩:∃ gt,ta=some ⟨gt,0,none⟩/\gt<w.heap.size:=by
    rcases HTS.out.2 with⟨e,e0⟩|⟨g',cap,cur,hv,_,hh,_⟩
    ·omega
    ·simp at hv;exact⟨g',hv.1,z8 hh⟩
   have ho:=z7 (z7 HTS.out (HX1.out.trans HX4.out) (fun _ _ f=>f)) HX.out (fun k hk e=>by simp[Value.ownBlock] at hk;have:=HSW.out;omega)
   have x0:wr.cell? ⟨gt,j*6,none⟩=some (.string x.nm):=(ho.cellAt (j*6) (by omega)).trans (J6 hxj (j:=0) rfl);have x1:wr.cell? ⟨gt,j*6+1,none⟩=some (.int .i64 x.ar):=(ho.cellAt (j*6+1) (by omega)).trans (J6 hxj rfl);have x2:wr.cell? ⟨gt,j*6+2,none⟩=some (.int .i64 x.a0):=(ho.cellAt (j*6+2) (by omega)).trans (J6 hxj rfl);have x3:wr.cell? ⟨gt,j*6+3,none⟩=some (.int .i64 x.a1):=(ho.cellAt (j*6+3) (by omega)).trans (J6 hxj rfl);have x4:wr.cell? ⟨gt,j*6+4,none⟩=some (.int .i64 x.a2):=(ho.cellAt (j*6+4) (by omega)).trans (J6 hxj rfl);have x5:wr.cell? ⟨gt,j*6+5,none⟩=some (.int .i64 x.v):=(ho.cellAt (j*6+5) (by omega)).trans (J6 hxj rfl);have HXJ:=q8 hxj;clear ho hxj;go_wp2_with fail;obtain⟨V,hVe⟩:∃ V,wr.alloc (.cells #[.string x.nm,.int .i64 x.ar,.int .i64 x.a0,.int .i64 x.a1,.int .i64 x.a2,.int .i64 x.v] 145)=V:=⟨_,rfl⟩;have HVX:Hid (q9 (fun _=>False) wr V):=by rw[<- hVe];exact(q9.refl _ wr).alloc _
   have KX:Hid (V.heap[wr.heap.size]?=some (.cells #[.string x.nm,.int .i64 x.ar,.int .i64 x.a0,.int .i64 x.a1,.int .i64 x.a2,.int .i64 x.v] 145)):=by rw[<- hVe];exact heap_alloc_new wr _
   rw[hVe];clear hVe x0 x1 x2 x3 x4 x5;by_cases hnm:x.nm=⟨#[]⟩
   ·refine(zX9 (W:=V) hnm).mono ?_;rintro e w5 ⟨rfl,hx5⟩;have hxm:=List.mem_of_getElem? HXJ.out;have hxv:=HK.out.v x hxm;have hf:=(HK.out.far hT).2.1;have HNM:=q8 hnm;have k5:=(hx5.block _ (z8 KX.out) (fun f=>f)).trans KX.out;have y5:=z6 k5 5;have hxx5:q9 (fun _=>False) wr w5:=HVX.out.trans hx5;have kc5:=(hxx5.block st (z8 KC.out) (fun f=>f)).trans KC.out;have hnum:=jj8 (AK:=AK) HXJ.out hnm;have hc1:=za5 (i:=j) (j:=TK.length) (m:=x.v) (mw:=M3.none) kc5 HT1.out (by omega) (by omega) (by omega) HSX.out.inv (by show ze6 TK AK<=1000000;omega) (by omega) (J8.none 0) (fun v hv _=>by
     have h1:=hv.num j x.v hlt hnum;have h2:=hv.zero;have h3:v TK.length=0:=h2;omega)
    have HC1:=q8 hc1;have HX5:=q8 hxx5;have K5:=q8 k5;have HNU:=q8 hnum;have hs5:=hxx5.size;have hkl:=z8 k5;clear hc1 hx5 hxx5 kc5 hnum hnm hxm k5;go_wp2_with fail;refine HC1.out.mono ?_;rintro e w6 ⟨Y,ok1,rfl,⟨hx6,C6,k6,hT6,hs6⟩,hP6,hR6⟩;have hok1:=qY6 hP6 HV.out;subst hok1;have hl6:=hR6 (by simp);have hI6:=hP6.inv (by simp);have kx6:=(hx6.block _ (z8 K5.out) (fun e=>by have:=z8 KC.out;omega)).trans K5.out;have z5:=z6 kx6 5;have hc2:=za5 (i:=TK.length) (j:=j) (m := -x.v) (mw:=M3.none) k6 hT6 (by omega) (by omega) (by omega) hI6 (by show ze6 TK AK<=1000000;omega) (by omega) (J8.none 0) (fun v hv _=>by have h1:=hv.num j x.v hlt HNU.out;have h2:=hv.zero;have h3:v TK.length=0:=h2;omega)
    have HC2:=q8 hc2;have HX6:=q8 hx6;have HS6:=q8 hs6;have HP6:=q8 hP6;have HL6:=q8 hl6.1;have hs66:=hx6.size;clear hc2 hx6 hs6 hP6 hR6 hl6 hI6 k6 hT6 kx6 HC1 y5;go_wp2_with fail;refine HC2.out.mono ?_;rintro e w7 ⟨Y7,ok2,rfl,⟨hx7,C7,k7,hT7,hs7⟩,hP7,hR7⟩;have hok2:=qY6 hP7 HV.out;subst hok2;have hl7:=hR7 (by simp);have HX7:=q8 hx7;have HS7:=q8 hs7;have HP7:=q8 hP7;have HL7:=q8 hl7.1;have K7:=q8 k7;have HT7:=q8 hT7;clear hx7 hs7 hP7 hR7 hl7 k7 hT7 HC2 z5;go_wp2_with fail
    go_roundw
    case measure=>simp[intOf];omega
    case rel=>
     refine⟨j+1,by omega,by go_num,C7,Y7,?_,K7.out,?_,HT7.out,HSX.out.take hlt HNU.out HP6.out HP7.out (by simp) HL6.out HL7.out⟩
     ·exact HX.out.trans' ((HX5.out.mono (fun _ _ f=>f.elim)).trans (HX6.out.trans HX7.out)) (fun _ _ e=>e)
     ·rw[HS7.out.1,HS6.out.1,hCs]
   ·refine(qn2 (W:=V) hnm).mono ?_;rintro e w5 ⟨rfl,hx5⟩;have HX5:=q8 (HVX.out.trans hx5);have HNM:=q8 hnm;clear hx5 hnm;go_wp2_with fail
    go_roundw
    case measure=>simp[intOf];omega
    case rel=>exact⟨j+1,by omega,by go_num,C1,X,HX.out.trans' HX5.out (fun _ _ f=>f.elim),(HX5.out.block st (z8 KC.out) (fun f=>f)).trans KC.out,hCs,HT1.out,HSX.out.skip (jr3 HXJ.out HNM.out)⟩
  ·have hjn:j=TK.length:=by omega
   subst hjn;have hld:=zy6 prog wr ⟨st,0,none⟩ 681 C1 hCs (fun q v hq=>(by
    have:=(z6 KC.out q).trans hq;simp only[Addr.add];split
    ·rename_i h0;subst h0;exact this
    ·simpa using this))
   have hbs:=zT3 wr C1 hCs;have kb:=(HX.out.block _ (Nat.lt_of_lt_of_le (z8 KB.out) HX4.out.size) (fun e=>by have:=HSW.out;omega)).trans ((HX4.out.block _ (z8 KB.out) (fun f=>f)).trans KB.out);have b4:=z6 kb 4;have f4:=Q8 kb 4;have hlb:=z8 kb;have KBW:=q8 kb;clear kb;go_wp2_with fail;go_ret;obtain⟨W',hW'⟩:∃ W',(wr.setCell ⟨w1.heap.size,4,none⟩ (.slice (some ⟨wr.heap.size,0,none⟩) 1 1)).alloc (.cells C1 203)=W':=⟨_,rfl⟩;have hsc:(wr.setCell ⟨w1.heap.size,4,none⟩ (.slice (some ⟨wr.heap.size,0,none⟩) 1 1)).heap.size=wr.heap.size:=by simp
   have hxa:q9 (fun k=>k=w1.heap.size) wr W':=by rw[<- hW'];exact((q9.refl (fun k=>k=w1.heap.size) wr).setCell (p:=⟨w1.heap.size,4,none⟩) (fun _=>rfl) _).alloc _
   have hx1:q9 (fun _=>False) w1 W':=((((by rw[<- HW1.out];exact(q9.refl _ w1).alloc _:q9 (fun _=>False) w1 W1).trans HX4.out).trans' HX.out (fun k hk e=>by have:=HSW.out;omega)).trans' hxa (fun k hk e=>by omega));have hxw:q9 (fun _=>False) w W':=HS1.out.1.trans hx1;have kn:W'.heap[wr.heap.size]?=some (.cells C1 203):=by have e:=heap_alloc_new (wr.setCell ⟨w1.heap.size,4,none⟩ (.slice (some ⟨wr.heap.size,0,none⟩) 1 1)) (.cells C1 203);rw[hW',hsc] at e;exact e
   have kbn:W'.heap[w1.heap.size]?=some (.cells #[.slice ta TK.length tc,.slice aa AK.length ac,.slice wa nt wc,.slice none 0 0,.slice (some ⟨wr.heap.size,0,none⟩) 1 1] 194):=by rw[<- hW',heap_alloc_old _ _ (by rw[hsc];exact hlb)];exact Y4 KBW.out 4 _
   rw[hW'];refine⟨w1.heap.size,wr.heap.size,⟨.slice ta TK.length tc,.slice aa AK.length ac,.slice wa nt wc,.slice none 0 0,.slice (some ⟨wr.heap.size,0,none⟩) 1 1⟩,X,rfl,hxw,hs1,by have:=HX.out.size;omega,rfl,⟨kbn,z7 HTS.out hxw (fun _ _ f=>f),z7 HAS.out hxw (fun _ _ f=>f),z7 HS1.out.2.1 hx1 (fun _ _ f=>f),World.ownsRow_nil _ _ _ _,⟨1,C1,rfl,kn,by rw[hCs],Nat.le_refl _,by unfold maxLen;omega,fun k Y hk=>?_⟩⟩,HSX.out.thg⟩;have hk0:k=0:=by have:=(List.getElem?_eq_some_iff.1 hk).1;simp at this;exact this
   subst hk0;obtain rfl:X=Y:=by simpa using hk
   exact HT1.out
end
end
end Go.Proofs.YtegbdaffhpiacaaGreatDoor
