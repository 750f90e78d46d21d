/- A part of the proof. -/
import Derived.Test.YtegbdaffhpiacaaGreatDoorMod11
import Derived.Test.YtegbdaffhpiacaaGreatDoorMod16
import Derived.Lib.ItoaNum
set_option maxRecDepth 100000
set_option maxHeartbeats 2000000
namespace Go.Proofs.YtegbdaffhpiacaaGreatDoor
open Tryz
section
open Go.RowKit Ar
theorem qP7{j:Nat}(h:j<64):IntKind.u64.wrap (2^j)=((BitVec.twoPow 64 j).toNat:Int):=by
 have h1:(BitVec.twoPow 64 j).toNat=2^j:=by rw[BitVec.toNat_twoPow];exact Nat.mod_eq_of_lt (Nat.pow_lt_pow_right (by decide) h)
 have h2:=zm8 (BitVec.twoPow 64 j);rw[h1] at h2;rw[h1];have h3:((2^j:Nat):Int)=2^j:=by simp
 rw[h3] at h2;rw[h2,h3]
theorem zZ1(k:Nat)(hk:k<192)(w:World):Calls prog 179 #[.int .i64 k] w fun e w'=>e=.returned (M3.of k).val/\q9 (fun _=>False) w w':=by
 have hc:k/64=0\/k/64=1\/k/64=2:=by omega
 have h64:k%64<64:=by omega
 have HP:=q8 (qP7 h64);rcases hc with h|h|h
 ·have h1:(k:Int)/64=0:=by omega
  have HV:Hid ((M3.of k).val=.agg #[.int .u64 (IntKind.u64.wrap (2^(k%64))),.int .u64 0,.int .u64 0]):=by show _=_;rw[HP.out];unfold M3.of M3.val u64;rw[if_pos (by omega),show k%64=k by omega];rfl
  go_enter func179,ntmps179;go_wp2_with fail;refine bodyPost_ret (v:=(M3.of k).val) (by rw[HV.out];simp[results,results179,go_sem]) rfl ⟨rfl,((q9.refl _ w).alloc _).alloc _⟩
 ·have h1:(k:Int)/64=1:=by omega
  have HV:Hid ((M3.of k).val=.agg #[.int .u64 0,.int .u64 (IntKind.u64.wrap (2^(k%64))),.int .u64 0]):=by show _=_;rw[HP.out];unfold M3.of M3.val u64;rw[if_neg (by omega),if_pos (by omega),show k%64=k-64 by omega];rfl
  go_enter func179,ntmps179;go_wp2_with fail;refine bodyPost_ret (v:=(M3.of k).val) (by rw[HV.out];simp[results,results179,go_sem]) rfl ⟨rfl,((q9.refl _ w).alloc _).alloc _⟩
 ·have h1:(k:Int)/64=2:=by omega
  have HV:Hid ((M3.of k).val=.agg #[.int .u64 0,.int .u64 0,.int .u64 (IntKind.u64.wrap (2^(k%64)))]):=by show _=_;rw[HP.out];unfold M3.of M3.val u64;rw[if_neg (by omega),if_neg (by omega),show k%64=k-128 by omega];rfl
  go_enter func179,ntmps179;go_wp2_with fail;refine bodyPost_ret (v:=(M3.of k).val) (by rw[HV.out];simp[results,results179,go_sem]) rfl ⟨rfl,((q9.refl _ w).alloc _).alloc _⟩
theorem zL2{x:BitVec 64}(h:x≠0):∃ n,Lib.bitLen x.toNat=n+1/\n<64/\x.getLsbD n=true/\∀ j,x.getLsbD j=true->j<=n:=by
 have h0:x.toNat≠0:=fun e=>h (BitVec.eq_of_toNat_eq e)
 obtain⟨h1,h2,h3⟩:=Lib.bitLenAux_bounds 64 x.toNat x.isLt h0;obtain⟨n,hn⟩:∃ n,Lib.bitLenAux 64 x.toNat=n+1:=⟨Lib.bitLenAux 64 x.toNat-1,by omega⟩;rw[hn] at h2 h3;simp only[Nat.add_sub_cancel] at h2;refine⟨n,hn,?_,?_,fun j hj=>?_⟩
 ·have h4:=x.isLt;by_cases hl:n<64
  ·exact hl
  ·have:=Nat.pow_le_pow_right (n:=2) (by decide) (by omega:64<=n);omega
 ·show x.toNat.testBit n=true;rw[Nat.testBit_eq_decide_div_mod_eq];have h5:x.toNat/2^n=1:=by
   rw[Nat.div_eq_iff (Nat.pos_of_ne_zero (by simp))];rw[Nat.pow_succ] at h3;omega
  rw[h5]
  rfl
 ·by_cases hl:j<=n
  ·exact hl
  ·have h6:x.toNat<2^j:=Nat.lt_of_lt_of_le h3 (Nat.pow_le_pow_right (by decide) (by omega));have h7:x.toNat.testBit j=false:=Nat.testBit_lt_two_pow h6;have h8:x.toNat.testBit j=true:=hj;rw[h7] at h8;exact absurd h8 (by decide)
theorem zL3(s:M3)(w:World):Calls prog 180 #[s.val] w fun e w'=>q9 (fun _=>False) w w'/\((e=.returned (.tuple #[.int .i64 0,.bool false])/\∀ k,s.has k=false)\/∃ k:Nat,e=.returned (.tuple #[.int .i64 k,.bool true])/\s.has k=true/\∀ j,s.has j=true->j<=k):=by
 simp only[M3.val];go_enter func180,ntmps180;go_wp2_with fail
 go_loopw [4] (fun i wr=>∃ j:Nat,j<=3/\i=.int .i64 ((j:Int)-1)/\q9 (fun _=>False) w wr/\wr.heap[w.heap.size]?=some (.cells s.cells 197)/\(j<=2->s.c=0)/\(j<=1->s.b=0)/\(j=0->s.a=0)) (fun i _=>(intOf i+1).toNat)
 case atStart=>exact⟨3,by omega,rfl,(q9.refl _ w).alloc _,heap_alloc_new w _,by omega,by omega,by omega⟩
 case round=>
  obtain⟨j,hj,rfl,hx,k0,g2,g1,g0⟩:=hrel;have HX:=q8 hx;have K0:=q8 k0;have G2:=q8 g2;have G1:=q8 g1;have G0:=q8 g0;clear hx g2 g1 g0;have hc:j=0\/j=1\/j=2\/j=3:=by omega
  clear hj;rcases hc with rfl|rfl|rfl|rfl
  ·clear k0;go_wp2_with fail
   go_ret2
   refine⟨HX.out,.inl ⟨rfl,fun k=>?_⟩⟩;unfold M3.has;rw[G0.out (by simp),G1.out (by omega),G2.out (by omega)];simp
  ·have c0:wr.cell? ⟨w.heap.size,0,none⟩=some (.int .u64 s.a.toNat):=z6 k0 0;clear k0;by_cases hz:s.a=0
   ·have hz2:((s.a.toNat:Int) != 0)=false:=by rw[hz];rfl
    go_wp2_with fail
    go_roundw
    case measure=>simp[intOf]
    case rel=>exact⟨0,by omega,by go_num,HX.out,K0.out,fun _=>G2.out (by omega),fun _=>G1.out (by omega),fun _=>hz⟩
   ·have hz2:((s.a.toNat:Int) != 0)=true:=by
     have h0:s.a.toNat≠0:=fun e=>hz (BitVec.eq_of_toNat_eq e)
     simp;omega
    obtain⟨n,hn,hn64,hb,hm⟩:=zL2 hz;have hlt:=s.a.isLt;have HC:=q8 (Tryz.bits_Len64 s.a.toNat wr (by omega) (by omega));have HB:=q8 hb;have HM:=q8 hm;have HN:=q8 hn;clear hb hm hn hz hlt;go_wp2_with fail;refine HC.out.mono ?_;rintro e w2 ⟨rfl,rfl⟩;have hn':(Lib.bitLen (s.a.toNat:Int).toNat:Int)=n+1:=by rw[Int.toNat_natCast,HN.out];rfl
    rw[hn'];clear hn';go_wp2_with fail
    go_ret2
    refine⟨HX.out,.inr ⟨n,by simp,?_,fun j hj=>?_⟩⟩
    ·unfold M3.has;rw[if_pos hn64];exact HB.out
    ·unfold M3.has at hj;rw[G1.out (by omega),G2.out (by omega)] at hj;split at hj
     ·exact HM.out j hj
     ·simp at hj
  ·have c0:wr.cell? ⟨w.heap.size,1,none⟩=some (.int .u64 s.b.toNat):=z6 k0 1;clear k0;by_cases hz:s.b=0
   ·have hz2:((s.b.toNat:Int) != 0)=false:=by rw[hz];rfl
    go_wp2_with fail
    go_roundw
    case measure=>simp[intOf]
    case rel=>exact⟨1,by omega,by go_num,HX.out,K0.out,fun _=>G2.out (by omega),fun _=>hz,by omega⟩
   ·have hz2:((s.b.toNat:Int) != 0)=true:=by
     have h0:s.b.toNat≠0:=fun e=>hz (BitVec.eq_of_toNat_eq e)
     simp;omega
    obtain⟨n,hn,hn64,hb,hm⟩:=zL2 hz;have hlt:=s.b.isLt;have HC:=q8 (Tryz.bits_Len64 s.b.toNat wr (by omega) (by omega));have HB:=q8 hb;have HM:=q8 hm;have HN:=q8 hn;clear hb hm hn hz hlt;go_wp2_with fail;refine HC.out.mono ?_;rintro e w2 ⟨rfl,rfl⟩;have hn':(Lib.bitLen (s.b.toNat:Int).toNat:Int)=n+1:=by rw[Int.toNat_natCast,HN.out];rfl
    rw[hn'];clear hn';go_wp2_with fail
    go_ret2
    refine⟨HX.out,.inr ⟨64+n,?_,?_,fun j hj=>?_⟩⟩
    ·go_num
    ·unfold M3.has;rw[if_neg (by omega),if_pos (by omega),Nat.add_sub_cancel_left];exact HB.out
    ·unfold M3.has at hj;rw[G2.out (by omega)] at hj;split at hj
     ·omega
     ·split at hj
      ·have:=HM.out (j-64) hj;omega
      ·simp at hj
  ·have c0:wr.cell? ⟨w.heap.size,2,none⟩=some (.int .u64 s.c.toNat):=z6 k0 2;clear k0;by_cases hz:s.c=0
   ·have hz2:((s.c.toNat:Int) != 0)=false:=by rw[hz];rfl
    go_wp2_with fail
    go_roundw
    case measure=>simp[intOf]
    case rel=>exact⟨2,by omega,by go_num,HX.out,K0.out,fun _=>hz,by omega,by omega⟩
   ·have hz2:((s.c.toNat:Int) != 0)=true:=by
     have h0:s.c.toNat≠0:=fun e=>hz (BitVec.eq_of_toNat_eq e)
     simp;omega
    obtain⟨n,hn,hn64,hb,hm⟩:=zL2 hz;have hlt:=s.c.isLt;have HC:=q8 (Tryz.bits_Len64 s.c.toNat wr (by omega) (by omega));have HB:=q8 hb;have HM:=q8 hm;have HN:=q8 hn;clear hb hm hn hz hlt;go_wp2_with fail;refine HC.out.mono ?_;rintro e w2 ⟨rfl,rfl⟩;have hn':(Lib.bitLen (s.c.toNat:Int).toNat:Int)=n+1:=by rw[Int.toNat_natCast,HN.out];rfl
    rw[hn'];clear hn';go_wp2_with fail
    go_ret2
    refine⟨HX.out,.inr ⟨128+n,?_,?_,fun j hj=>?_⟩⟩
    ·go_num
    ·unfold M3.has;rw[if_neg (by omega),if_neg (by omega),Nat.add_sub_cancel_left];exact HB.out
    ·unfold M3.has at hj;split at hj
     ·omega
     ·split at hj
      ·omega
      ·have:=HM.out (j-128) hj;omega
structure J9(C:Array Value)(o n:Nat)(X:W9):Prop where
 by_:∀ i j,i<13->j<13->C[o+i*52+j*4]?=some (.int .i64 (X.t.by_ i j))
 wa:∀ i j,i<13->j<13->C[o+i*52+j*4+1]?=some (u64 (X.t.why i j).a)
 wb:∀ i j,i<13->j<13->C[o+i*52+j*4+2]?=some (u64 (X.t.why i j).b)
 wc:∀ i j,i<13->j<13->C[o+i*52+j*4+3]?=some (u64 (X.t.why i j).c)
 size:C[o+676]?=some (.int .i64 n)
 news:C[o+677]?=some (.bool X.news)
 xa:C[o+678]?=some (u64 X.wrong.a)
 xb:C[o+679]?=some (u64 X.wrong.b)
 xc:C[o+680]?=some (u64 X.wrong.c)
def Ar.Tb.put(T:Tb)(f t:Nat)(s:Int)(m:M3):Tb where
 by_:=fun i j=>if i=f/\j=t then s else T.by_ i j
 why:=fun i j=>if i=f/\j=t then m else T.why i j
def zv3(C:Array Value)(p:Nat)(s:Int)(m:M3):Array Value:=(((C.setIfInBounds p (.int .i64 s)).setIfInBounds (p+1) (u64 m.a)).setIfInBounds (p+2) (u64 m.b)).setIfInBounds (p+3) (u64 m.c)
theorem J4{C:Array Value}{p q:Nat}{v:Value}:(C.setIfInBounds p v)[q]?=if p=q then(if p<C.size then some v else none) else C[q]?:=by rw[Array.getElem?_setIfInBounds]
theorem qD8(C:Array Value)(p:Nat)(s:Int)(m:M3):(zv3 C p s m).size=C.size:=by simp[zv3]
theorem qf6{C:Array Value}{p q:Nat}{s:Int}{m:M3}(h:q<p\/p+4<=q):(zv3 C p s m)[q]?=C[q]?:=by unfold zv3;simp only[J4];rw[if_neg (by omega),if_neg (by omega),if_neg (by omega),if_neg (by omega)]
theorem za4{C:Array Value}{p:Nat}{v:Value}(h:C[p]?=some v):p<C.size:=by
 rcases Nat.lt_or_ge p C.size with h1|h1
 ·exact h1
 ·rw[Array.getElem?_eq_none h1] at h;simp at h
theorem J9.put{C:Array Value}{o n:Nat}{X:W9}(h:J9 C o n X){f t:Nat}(hf:f<13)(ht:t<13)(s:Int)(m:M3):J9 (zv3 C (o+f*52+t*4) s m) o n ⟨X.t.put f t s m,X.news,X.wrong⟩:=by
 have l0:=za4 (h.by_ f t hf ht);have l1:=za4 (h.wa f t hf ht);have l2:=za4 (h.wb f t hf ht);have l3:=za4 (h.wc f t hf ht);have out:∀ q,q<o+f*52+t*4\/o+f*52+t*4+4<=q->(zv3 C (o+f*52+t*4) s m)[q]?=C[q]?:=fun q hq=>qf6 hq
 have in0:(zv3 C (o+f*52+t*4) s m)[o+f*52+t*4]?=some (.int .i64 s):=by unfold zv3;simp only[J4];simp[l0]
 have in1:(zv3 C (o+f*52+t*4) s m)[o+f*52+t*4+1]?=some (u64 m.a):=by unfold zv3;simp only[J4];simp[l1]
 have in2:(zv3 C (o+f*52+t*4) s m)[o+f*52+t*4+2]?=some (u64 m.b):=by unfold zv3;simp only[J4];simp[l2]
 have in3:(zv3 C (o+f*52+t*4) s m)[o+f*52+t*4+3]?=some (u64 m.c):=by unfold zv3;simp only[J4];simp[l3]
 refine⟨fun i j hi hj=>?_,fun i j hi hj=>?_,fun i j hi hj=>?_,fun i j hi hj=>?_,?_,?_,?_,?_,?_⟩
 ·by_cases e:i=f/\j=t
  ·obtain⟨rfl,rfl⟩:=e;rw[in0];simp[Tb.put]
  ·rw[out _ (by omega),h.by_ i j hi hj];simp[Tb.put,e]
 ·by_cases e:i=f/\j=t
  ·obtain⟨rfl,rfl⟩:=e;rw[in1];simp[Tb.put]
  ·rw[out _ (by omega),h.wa i j hi hj];simp[Tb.put,e]
 ·by_cases e:i=f/\j=t
  ·obtain⟨rfl,rfl⟩:=e;rw[in2];simp[Tb.put]
  ·rw[out _ (by omega),h.wb i j hi hj];simp[Tb.put,e]
 ·by_cases e:i=f/\j=t
  ·obtain⟨rfl,rfl⟩:=e;rw[in3];simp[Tb.put]
  ·rw[out _ (by omega),h.wc i j hi hj];simp[Tb.put,e]
 ·rw[out _ (by omega)];exact h.size
 ·rw[out _ (by omega)];exact h.news
 ·rw[out _ (by omega)];exact h.xa
 ·rw[out _ (by omega)];exact h.xb
 ·rw[out _ (by omega)];exact h.xc
def X9(C C':Array Value)(o:Nat):Prop:=C'.size=C.size/\∀ q,q<o\/o+681<=q->C'[q]?=C[q]?
theorem X9.refl(C:Array Value)(o:Nat):X9 C C o:=⟨rfl,fun _ _=>rfl⟩
theorem X9.trans{C C' C'':Array Value}{o:Nat}(h1:X9 C C' o)(h2:X9 C' C'' o):X9 C C'' o:=⟨h2.1.trans h1.1,fun q hq=>(h2.2 q hq).trans (h1.2 q hq)⟩
theorem X9.put(C:Array Value)(o:Nat){f t:Nat}(hf:f<13)(ht:t<13)(s:Int)(m:M3):X9 C (zv3 C (o+f*52+t*4) s m) o:=⟨qD8 _ _ _ _,fun q hq=>qf6 (by omega)⟩
def O0(w:World)(g o n:Nat)(C:Array Value)(Y:W9)(w':World):Prop :=
 q9 (fun k=>k=g) w w'/\∃ C',w'.heap[g]?=some (.cells C' 203)/\J9 C' o n Y/\X9 C C' o
def Ar.Tb.short(T:Tb)(f t:Nat)(s:Int)(m:M3):Tb:=if s<T.by_ f t then T.put f t s m else T
theorem J9.cell{w:World}{g o n:Nat}{C:Array Value}{X:W9}(kb:w.heap[g]?=some (.cells C 203))(h:J9 C o n X){i j:Nat}(hi:i<13)(hj:j<13):w.cell? ⟨g,o+i*52+j*4,none⟩=some (.int .i64 (X.t.by_ i j))/\w.cell? ⟨g,o+i*52+j*4+1,none⟩=some (.int .u64 (X.t.why i j).a.toNat)/\w.cell? ⟨g,o+i*52+j*4+2,none⟩=some (.int .u64 (X.t.why i j).b.toNat)/\w.cell? ⟨g,o+i*52+j*4+3,none⟩=some (.int .u64 (X.t.why i j).c.toNat) :=
 ⟨(z6 kb _).trans (h.by_ i j hi hj),(z6 kb _).trans (h.wa i j hi hj),(z6 kb _).trans (h.wb i j hi hj),(z6 kb _).trans (h.wc i j hi hj)⟩
def zY8(x y z:Int)(j:Nat):Int:=if j=0 then 0 else if j=1 then x else if j=2 then x+y else x+y+z
def zc0(a b c:M3)(j:Nat):M3:=if j=0 then M3.none else if j=1 then M3.none.or a else if j=2 then(M3.none.or a).or b else((M3.none.or a).or b).or c
def zm0(x y z:Int)(a b c:M3):Array Value:=#[.int .i64 x,.int .u64 a.a.toNat,.int .u64 a.b.toNat,.int .u64 a.c.toNat,.int .i64 y,.int .u64 b.a.toNat,.int .u64 b.b.toNat,.int .u64 b.c.toNat,.int .i64 z,.int .u64 c.a.toNat,.int .u64 c.b.toNat,.int .u64 c.c.toNat]
theorem zw9(w:World)(b:Nat)(u v x:Value):q9 (fun k=>k=b) w (((w.setCell ⟨b,1,none⟩ u).setCell ⟨b,2,none⟩ v).setCell ⟨b,3,none⟩ x) :=
 (((q9.refl (fun k=>k=b) w).setCell (p:=⟨b,1,none⟩) (fun _=>rfl) _).setCell (p:=⟨b,2,none⟩) (fun _=>rfl) _).setCell (p:=⟨b,3,none⟩) (fun _=>rfl) _
theorem qD9(w:World)(b p:Nat)(u v x y:Value):q9 (fun k=>k=b) w ((((w.setCell ⟨b,p,none⟩ u).setCell ⟨b,p+1,none⟩ v).setCell ⟨b,p+2,none⟩ x).setCell ⟨b,p+3,none⟩ y) :=
 ((((q9.refl (fun k=>k=b) w).setCell (p:=⟨b,p,none⟩) (fun _=>rfl) _).setCell (p:=⟨b,p+1,none⟩) (fun _=>rfl) _).setCell (p:=⟨b,p+2,none⟩) (fun _=>rfl) _).setCell (p:=⟨b,p+3,none⟩) (fun _=>rfl) _
theorem qf7{w:World}{g o n wb:Nat}{C:Array Value}{X:W9}{f t:Nat}{x y z:Int}{a b c:M3}(kb:w.heap[g]?=some (.cells C 203))(hT:J9 C o n X)(kw:w.heap[wb]?=some (.cells (zm0 x y z a b c) 199))(hf:f<13)(ht:t<13)
  (hx:-10000000<=x/\x<=10000000) (hy:-10000000<=y/\y<=10000000) (hz:-10000000<=z/\z<=10000000):
  Calls prog 140 #[.pointer (some ⟨g,o,none⟩),.int .i64 f,.int .i64 t,.slice (some ⟨wb,0,none⟩) 3 3] w fun e w'=>e=.returned (.tuple #[])/\O0 w g o n C ⟨X.t.short f t (x+y+z) ((a.or b).or c),X.news,X.wrong⟩ w':=by
 obtain⟨hx1,hx2⟩:=hx;obtain⟨hy1,hy2⟩:=hy;obtain⟨hz1,hz2⟩:=hz;have KB:=q8 kb;have HT:=q8 hT;have KW:=q8 kw;have hgl:=z8 kb;have hwl:=z8 kw;clear kb hT kw;go_enter func140,ntmps140;go_wp2_with fail
 go_loopw [16] (fun i wr=>∃ j:Nat,j<=3/\i=.int .i64 j/\q9 (fun _=>False) w wr/\wr.heap[w.heap.size]?=some (.cells #[.int .i64 (zY8 x y z j),.int .u64 0,.int .u64 0,.int .u64 0] 199)) (fun i _=>3-(intOf i).toNat)
 case atStart=>exact⟨0,by omega,rfl,(q9.refl _ w).alloc _,heap_alloc_new w _⟩
 case round=>
  obtain⟨j,hj,rfl,hx,k0⟩:=hrel;have HX:=q8 hx;have K0:=q8 k0;have hws:=hx.size;have hn0:=z8 k0;have kw:=(hx.block _ hwl (fun f=>f)).trans KW.out;clear hx;by_cases hlt:j<3
  ·have hc:j=0\/j=1\/j=2:=by omega
   clear hlt hj;have a0:=z6 k0 0;have af:=Q8 k0 0;rcases hc with rfl|rfl|rfl
   ·have b0:=z6 kw 0;have b1:=z6 kw 1;have b2:=z6 kw 2;have b3:=z6 kw 3;simp only[zm0,zY8] at a0 b0 b1 b2 b3;clear k0 kw;go_wp2_with fail
    go_roundw
    case measure=>simp[intOf]
    case rel=>refine⟨1,by omega,by go_num,(HX.out.trans' ((q9.refl (fun k=>k=w.heap.size) wr).setCell (p:=⟨w.heap.size,0,none⟩) (fun _=>rfl) _) (fun i hi e=>by have h1:i=w.heap.size:=e;omega)).alloc _,?_⟩;rw[heap_alloc_old _ _ (by simpa using hn0)];exact Y4 K0.out 0 _
   ·have b0:=z6 kw 4;have b1:=z6 kw 5;have b2:=z6 kw 6;have b3:=z6 kw 7;simp only[zm0,zY8] at a0 b0 b1 b2 b3;clear k0 kw;go_wp2_with fail
    go_roundw
    case measure=>simp[intOf]
    case rel=>refine⟨2,by omega,by go_num,(HX.out.trans' ((q9.refl (fun k=>k=w.heap.size) wr).setCell (p:=⟨w.heap.size,0,none⟩) (fun _=>rfl) _) (fun i hi e=>by have h1:i=w.heap.size:=e;omega)).alloc _,?_⟩;rw[heap_alloc_old _ _ (by simpa using hn0)];exact Y4 K0.out 0 _
   ·have b0:=z6 kw 8;have b1:=z6 kw 9;have b2:=z6 kw 10;have b3:=z6 kw 11;simp only[zm0,zY8] at a0 b0 b1 b2 b3;clear k0 kw;go_wp2_with fail
    go_roundw
    case measure=>simp[intOf]
    case rel=>refine⟨3,by omega,by go_num,(HX.out.trans' ((q9.refl (fun k=>k=w.heap.size) wr).setCell (p:=⟨w.heap.size,0,none⟩) (fun _=>rfl) _) (fun i hi e=>by have h1:i=w.heap.size:=e;omega)).alloc _,?_⟩;rw[heap_alloc_old _ _ (by simpa using hn0)];exact Y4 K0.out 0 _
  ·have hj3:j=3:=by omega
   subst hj3;clear hlt hj;have a0:wr.cell? ⟨w.heap.size,0,none⟩=some (.int .i64 (x+y+z)):=z6 k0 0;have kg:=(HX.out.block _ hgl (fun f=>f)).trans KB.out;obtain⟨t0,t1,t2,t3⟩:=HT.out.cell kg hf ht;have KG:=q8 kg;clear k0 kw kg;by_cases hs:x+y+z<X.t.by_ f t
   ·have hd:decide (X.t.by_ f t<=x+y+z)=false:=decide_eq_false (by omega);have HS:Hid (X.t.short f t (x+y+z) ((a.or b).or c)=X.t.put f t (x+y+z) ((a.or b).or c)):=by show _=_;unfold Tb.short;rw[if_pos hs]
    clear hs;go_wp2_with fail
    go_region
    go_wp2_with fail
    go_loopw [41] (fun i wq=>∃ j:Nat,j<=3/\i=.int .i64 j/\q9 (fun _=>False) w wq/\wq.heap[w.heap.size]?=some (.cells #[.int .i64 (x+y+z),.int .u64 (zc0 a b c j).a.toNat,.int .u64 (zc0 a b c j).b.toNat,.int .u64 (zc0 a b c j).c.toNat] 199)) (fun i _=>3-(intOf i).toNat)
    case atStart=>exact⟨0,by omega,rfl,HX.out.drew,K0.out⟩
    case round=>
    obtain⟨j,hj,rfl,hx,k0⟩:=hrel;clear HX K0 KG a0 t0 t1 t2 t3;have HX:=q8 hx;have K0:=q8 k0;have hn0:=z8 k0;have kw:=(hx.block _ hwl (fun f=>f)).trans KW.out;clear hx;by_cases hlt:j<3
    ·have hc:j=0\/j=1\/j=2:=by omega
     clear hlt hj;rcases hc with rfl|rfl|rfl
     ·have b0:=z6 kw 0;have b1:=z6 kw 1;have b2:=z6 kw 2;have b3:=z6 kw 3;have a1:wr.cell? ⟨w.heap.size,1,none⟩=some (.int .u64 (zc0 a b c 0).a.toNat):=z6 k0 1;have a2:wr.cell? ⟨w.heap.size,2,none⟩=some (.int .u64 (zc0 a b c 0).b.toNat):=z6 k0 2;have a3:wr.cell? ⟨w.heap.size,3,none⟩=some (.int .u64 (zc0 a b c 0).c.toNat):=z6 k0 3;have f1:=Q8 k0 1;have f2:=Q8 k0 2;have f3:=Q8 k0 3;simp only[zm0] at b0 b1 b2 b3;clear k0 kw;go_wp2_with fail;refine(zg9 (zc0 a b c 0) a _).mono ?_;rintro e w5 ⟨rfl,hx5⟩;have hx6:q9 (fun _=>False) wr w5:=((q9.refl (fun _=>False) wr).alloc _).trans hx5;have k5:=(hx6.block _ hn0 (fun f=>f)).trans K0.out;have a1:=z6 k5 1;have a2:=z6 k5 2;have a3:=z6 k5 3;have f1:=Q8 k5 1;have f2:=Q8 k5 2;have f3:=Q8 k5 3;have K5:=q8 k5;have HX6:=q8 hx6;simp only[M3.val,u64];clear hx5 hx6 k5;go_wp2_with fail
      go_roundw
      case measure=>simp[intOf]
      case rel=>refine⟨1,by omega,by go_num,(HX.out.trans HX6.out).trans' (zw9 _ _ _ _ _) (fun i hi e=>by have h1:i=w.heap.size:=e;omega),?_⟩;exact Y4 (Y4 (Y4 K5.out 1 _) 2 _) 3 _
     ·have b0:=z6 kw 4;have b1:=z6 kw 5;have b2:=z6 kw 6;have b3:=z6 kw 7;have a1:wr.cell? ⟨w.heap.size,1,none⟩=some (.int .u64 (zc0 a b c 1).a.toNat):=z6 k0 1;have a2:wr.cell? ⟨w.heap.size,2,none⟩=some (.int .u64 (zc0 a b c 1).b.toNat):=z6 k0 2;have a3:wr.cell? ⟨w.heap.size,3,none⟩=some (.int .u64 (zc0 a b c 1).c.toNat):=z6 k0 3;have f1:=Q8 k0 1;have f2:=Q8 k0 2;have f3:=Q8 k0 3;simp only[zm0] at b0 b1 b2 b3;clear k0 kw;go_wp2_with fail;refine(zg9 (zc0 a b c 1) b _).mono ?_;rintro e w5 ⟨rfl,hx5⟩;have hx6:q9 (fun _=>False) wr w5:=((q9.refl (fun _=>False) wr).alloc _).trans hx5;have k5:=(hx6.block _ hn0 (fun f=>f)).trans K0.out;have a1:=z6 k5 1;have a2:=z6 k5 2;have a3:=z6 k5 3;have f1:=Q8 k5 1;have f2:=Q8 k5 2;have f3:=Q8 k5 3;have K5:=q8 k5;have HX6:=q8 hx6;simp only[M3.val,u64];clear hx5 hx6 k5;go_wp2_with fail
      go_roundw
      case measure=>simp[intOf]
      case rel=>refine⟨2,by omega,by go_num,(HX.out.trans HX6.out).trans' (zw9 _ _ _ _ _) (fun i hi e=>by have h1:i=w.heap.size:=e;omega),?_⟩;exact Y4 (Y4 (Y4 K5.out 1 _) 2 _) 3 _
     ·have b0:=z6 kw 8;have b1:=z6 kw 9;have b2:=z6 kw 10;have b3:=z6 kw 11;have a1:wr.cell? ⟨w.heap.size,1,none⟩=some (.int .u64 (zc0 a b c 2).a.toNat):=z6 k0 1;have a2:wr.cell? ⟨w.heap.size,2,none⟩=some (.int .u64 (zc0 a b c 2).b.toNat):=z6 k0 2;have a3:wr.cell? ⟨w.heap.size,3,none⟩=some (.int .u64 (zc0 a b c 2).c.toNat):=z6 k0 3;have f1:=Q8 k0 1;have f2:=Q8 k0 2;have f3:=Q8 k0 3;simp only[zm0] at b0 b1 b2 b3;clear k0 kw;go_wp2_with fail;refine(zg9 (zc0 a b c 2) c _).mono ?_;rintro e w5 ⟨rfl,hx5⟩;have hx6:q9 (fun _=>False) wr w5:=((q9.refl (fun _=>False) wr).alloc _).trans hx5;have k5:=(hx6.block _ hn0 (fun f=>f)).trans K0.out;have a1:=z6 k5 1;have a2:=z6 k5 2;have a3:=z6 k5 3;have f1:=Q8 k5 1;have f2:=Q8 k5 2;have f3:=Q8 k5 3;have K5:=q8 k5;have HX6:=q8 hx6;simp only[M3.val,u64];clear hx5 hx6 k5;go_wp2_with fail
      go_roundw
      case measure=>simp[intOf]
      case rel=>refine⟨3,by omega,by go_num,(HX.out.trans HX6.out).trans' (zw9 _ _ _ _ _) (fun i hi e=>by have h1:i=w.heap.size:=e;omega),?_⟩;exact Y4 (Y4 (Y4 K5.out 1 _) 2 _) 3 _
    ·have hj3:j=3:=by omega
     subst hj3;clear hlt hj;have a0:wr.cell? ⟨w.heap.size,0,none⟩=some (.int .i64 (x+y+z)):=z6 k0 0;have a1:wr.cell? ⟨w.heap.size,1,none⟩=some (.int .u64 ((a.or b).or c).a.toNat):=(z6 k0 1).trans (by simp only[zc0,M3.none_or];rfl);have a2:wr.cell? ⟨w.heap.size,2,none⟩=some (.int .u64 ((a.or b).or c).b.toNat):=(z6 k0 2).trans (by simp only[zc0,M3.none_or];rfl);have a3:wr.cell? ⟨w.heap.size,3,none⟩=some (.int .u64 ((a.or b).or c).c.toNat):=(z6 k0 3).trans (by simp only[zc0,M3.none_or];rfl);have kg:=(HX.out.block _ hgl (fun f=>f)).trans KB.out;obtain⟨t0,t1,t2,t3⟩:=HT.out.cell kg hf ht;have f0:=Q8 kg (o+f*52+t*4);have f1:=Q8 kg (o+f*52+t*4+1);have f2:=Q8 kg (o+f*52+t*4+2);have f3:=Q8 kg (o+f*52+t*4+3);have KG:=q8 kg;clear k0 kw kg;go_wp2_with fail
     go_region
     all_goals
      go_wp2_with fail
      go_end0
      refine⟨rfl,?_,zv3 C (o+f*52+t*4) (x+y+z) ((a.or b).or c),?_,?_,X9.put C o hf ht _ _⟩
      ·exact((HX.out.mono (fun _ _ f=>f.elim)).trans (qD9 _ _ _ _ _ _ _)).drew
      ·exact Y4 (Y4 (Y4 (Y4 KG.out _ _) _ _) _ _) _ _
      ·rw[HS.out];exact HT.out.put hf ht _ _
   ·have hd:decide (X.t.by_ f t<=x+y+z)=true:=decide_eq_true (by omega);have HS:Hid (X.t.short f t (x+y+z) ((a.or b).or c)=X.t):=by show _=_;unfold Tb.short;rw[if_neg hs]
    clear hs;go_wp2_with fail
    go_region
    go_wp2_with fail;refine bodyPost_ret (results_none rfl _ _ _) rfl ⟨rfl,?_,C,KG.out,?_,X9.refl _ _⟩
    ·exact(HX.out.mono (fun _ _ f=>f.elim)).drew
    ·rw[HS.out];exact HT.out
end
section
namespace Ar
def Tb.limP(n:Nat)(T:Tb)(i j:Nat)(m:Int)(mw:M3)(f t:Nat):Tb where
 by_:=fun a b=>if a<f\/a=f/\b<t then(T.lim n i j m mw).by_ a b else T.by_ a b
 why:=fun a b=>if a<f\/a=f/\b<t then(T.lim n i j m mw).why a b else T.why a b
theorem qb9{T U:Tb}(h1:∀ a b,T.by_ a b=U.by_ a b)(h2:∀ a b,T.why a b=U.why a b):T=U:=by
 cases T;cases U
 congr
 ·funext a b;exact h1 a b
 ·funext a b;exact h2 a b
theorem qL0(n:Nat)(T:Tb)(i j:Nat)(m:Int)(mw:M3):T.limP n i j m mw 0 0=T:=by refine qb9 (fun a b=>?_) (fun a b=>?_)<;>simp[Tb.limP]
theorem zI6{n:Nat}{T:Tb}{i j:Nat}{m:Int}{mw:M3}{a b:Nat}(h:¬(a<n/\b<n)):(T.lim n i j m mw).by_ a b=T.by_ a b/\(T.lim n i j m mw).why a b=T.why a b:=by simp only[Tb.lim];rw[if_neg (fun e=>h ⟨e.1,e.2.1⟩),if_neg (fun e=>h ⟨e.1,e.2.1⟩)];exact⟨rfl,rfl⟩
theorem qW4(n:Nat)(T:Tb)(i j:Nat)(m:Int)(mw:M3)(f:Nat):T.limP n i j m mw f n=T.limP n i j m mw (f+1) 0:=by
 refine qb9 (fun a b=>?_) (fun a b=>?_)
 ·simp only[Tb.limP];by_cases h1:a<f\/a=f/\b<n
  ·rw[if_pos h1,if_pos (by omega)]
  ·rw[if_neg h1];split
   ·rw[(zI6 (by omega)).1]
   ·rfl
 ·simp only[Tb.limP];by_cases h1:a<f\/a=f/\b<n
  ·rw[if_pos h1,if_pos (by omega)]
  ·rw[if_neg h1];split
   ·rw[(zI6 (by omega)).2]
   ·rfl
theorem qW5(n:Nat)(T:Tb)(i j:Nat)(m:Int)(mw:M3):T.limP n i j m mw n 0=T.lim n i j m mw:=by
 refine qb9 (fun a b=>?_) (fun a b=>?_)
 ·simp only[Tb.limP];split
  ·rfl
  ·rw[(zI6 (by omega)).1]
 ·simp only[Tb.limP];split
  ·rfl
  ·rw[(zI6 (by omega)).2]
theorem qW6{n:Nat}{far:Int}{V:(Nat->Int)->Prop}{H:Nat->(Nat->Int)->Prop}{K:Nat}{T:Tb}(h:V9 n far V H K T){i j:Nat}{m:Int}{mw:M3}(hi:i<n)(hj:j<n)(hb:0<=m+T.by_ j i)(f t a:Nat):
  (T.limP n i j m mw f t).by_ a i=T.by_ a i/\(T.limP n i j m mw f t).why a i=T.why a i:=by
 have hk:=zW5 h (m:=m) hi hj hb a i hi (.inr rfl);have h1:(T.lim n i j m mw).by_ a i=T.by_ a i:=by simp only[Tb.lim];rw[if_neg (fun e=>hk e.2.2)]
 have h2:(T.lim n i j m mw).why a i=T.why a i:=by simp only[Tb.lim];rw[if_neg (fun e=>hk e.2.2)]
 simp only[Tb.limP];rw[h1,h2];simp
theorem qL1{n:Nat}{far:Int}{V:(Nat->Int)->Prop}{H:Nat->(Nat->Int)->Prop}{K:Nat}{T:Tb}(h:V9 n far V H K T){i j:Nat}{m:Int}{mw:M3}(hi:i<n)(hj:j<n)(hb:0<=m+T.by_ j i)(f t a:Nat)(ha:a<n):
  (T.limP n i j m mw f t).by_ j a=T.by_ j a/\(T.limP n i j m mw f t).why j a=T.why j a:=by
 have hk:=zW5 h (m:=m) hi hj hb j a ha (.inl rfl);have h1:(T.lim n i j m mw).by_ j a=T.by_ j a:=by simp only[Tb.lim];rw[if_neg (fun e=>hk e.2.2)]
 have h2:(T.lim n i j m mw).why j a=T.why j a:=by simp only[Tb.lim];rw[if_neg (fun e=>hk e.2.2)]
 simp only[Tb.limP];rw[h1,h2];simp
theorem qL2{n:Nat}{T:Tb}{i j:Nat}{m:Int}{mw:M3}{f t:Nat}(hf:f<n)(ht:t<n):
  (T.limP n i j m mw f t).short f t (T.by_ f i+m+T.by_ j t) (((T.why f i).or mw).or (T.why j t))=T.limP n i j m mw f (t+1):=by
 have hft:(T.limP n i j m mw f t).by_ f t=T.by_ f t:=by simp only[Tb.limP];rw[if_neg (by omega)]
 unfold Tb.short;rw[hft];refine qb9 (fun a b=>?_) (fun a b=>?_)
 ·by_cases e:a=f/\b=t
  ·obtain⟨rfl,rfl⟩:=e;have:(T.limP n i j m mw a (b+1)).by_ a b=(T.lim n i j m mw).by_ a b:=if_pos (Or.inr ⟨rfl,Nat.lt_succ_self b⟩);rw[this];simp only[Tb.lim];by_cases hc:T.by_ a i+m+T.by_ j b<T.by_ a b
   ·rw[if_pos hc,if_pos ⟨hf,ht,hc⟩];simp[Tb.put]
   ·rw[if_neg hc,if_neg (fun e=>hc e.2.2)];exact hft
  ·have h1:(T.limP n i j m mw f (t+1)).by_ a b=(T.limP n i j m mw f t).by_ a b:=by
    simp only[Tb.limP];by_cases h2:a<f\/a=f/\b<t
    ·rw[if_pos h2,if_pos (by omega)]
    ·rw[if_neg h2,if_neg (by omega)]
   rw[h1];split
   ·simp[Tb.put,e]
   ·rfl
 ·by_cases e:a=f/\b=t
  ·obtain⟨rfl,rfl⟩:=e;have:(T.limP n i j m mw a (b+1)).why a b=(T.lim n i j m mw).why a b:=if_pos (Or.inr ⟨rfl,Nat.lt_succ_self b⟩);rw[this];have hw:(T.limP n i j m mw a b).why a b=T.why a b:=by simp only[Tb.limP];rw[if_neg (by omega)]
   simp only[Tb.lim];by_cases hc:T.by_ a i+m+T.by_ j b<T.by_ a b
   ·rw[if_pos hc,if_pos ⟨hf,ht,hc⟩];simp[Tb.put]
   ·rw[if_neg hc,if_neg (fun e=>hc e.2.2)];exact hw
  ·have h1:(T.limP n i j m mw f (t+1)).why a b=(T.limP n i j m mw f t).why a b:=by
    simp only[Tb.limP];by_cases h2:a<f\/a=f/\b<t
    ·rw[if_pos h2,if_pos (by omega)]
    ·rw[if_neg h2,if_neg (by omega)]
   rw[h1];split
   ·simp[Tb.put,e]
   ·rfl
end Ar
end
section
open Go.RowKit Ar
theorem J9.setNews{C:Array Value}{o n:Nat}{X:W9}(h:J9 C o n X)(b:Bool):J9 (C.setIfInBounds (o+677) (.bool b)) o n ⟨X.t,b,X.wrong⟩:=by
 have l0:=za4 h.news;refine⟨fun i j hi hj=>?_,fun i j hi hj=>?_,fun i j hi hj=>?_,fun i j hi hj=>?_,?_,?_,?_,?_,?_⟩
 ·rw[J4,if_neg (by omega)];exact h.by_ i j hi hj
 ·rw[J4,if_neg (by omega)];exact h.wa i j hi hj
 ·rw[J4,if_neg (by omega)];exact h.wb i j hi hj
 ·rw[J4,if_neg (by omega)];exact h.wc i j hi hj
 ·rw[J4,if_neg (by omega)];exact h.size
 ·rw[J4,if_pos rfl,if_pos l0]
 ·rw[J4,if_neg (by omega)];exact h.xa
 ·rw[J4,if_neg (by omega)];exact h.xb
 ·rw[J4,if_neg (by omega)];exact h.xc
def qE0(C:Array Value)(o:Nat)(m:M3):Array Value:=((C.setIfInBounds (o+678) (u64 m.a)).setIfInBounds (o+678+1) (u64 m.b)).setIfInBounds (o+678+2) (u64 m.c)
theorem J9.setWrong{C:Array Value}{o n:Nat}{X:W9}(h:J9 C o n X)(m:M3):J9 (qE0 C o m) o n ⟨X.t,X.news,m⟩:=by
 have l0:=za4 h.xa;have l1:=za4 h.xb;have l2:=za4 h.xc;refine⟨fun i j hi hj=>?_,fun i j hi hj=>?_,fun i j hi hj=>?_,fun i j hi hj=>?_,?_,?_,?_,?_,?_⟩<;>unfold qE0
 ·rw[J4,if_neg (by omega),J4,if_neg (by omega),J4,if_neg (by omega)];exact h.by_ i j hi hj
 ·rw[J4,if_neg (by omega),J4,if_neg (by omega),J4,if_neg (by omega)];exact h.wa i j hi hj
 ·rw[J4,if_neg (by omega),J4,if_neg (by omega),J4,if_neg (by omega)];exact h.wb i j hi hj
 ·rw[J4,if_neg (by omega),J4,if_neg (by omega),J4,if_neg (by omega)];exact h.wc i j hi hj
 ·rw[J4,if_neg (by omega),J4,if_neg (by omega),J4,if_neg (by omega)];exact h.size
 ·rw[J4,if_neg (by omega),J4,if_neg (by omega),J4,if_neg (by omega)];exact h.news
 ·rw[J4,if_neg (by omega),J4,if_neg (by omega),J4,if_pos rfl,if_pos l0]
 ·rw[J4,if_neg (by omega),J4,if_pos rfl,if_pos (by simpa using l1)]
 ·rw[J4,if_pos rfl,if_pos (by simpa using l2)]
theorem X9.news(C:Array Value)(o:Nat)(v:Value):X9 C (C.setIfInBounds (o+677) v) o:=⟨by simp,fun q hq=>by rw[J4,if_neg (by omega)]⟩
theorem X9.wrong(C:Array Value)(o:Nat)(m:M3):X9 C (qE0 C o m) o:=⟨by simp[qE0],fun q hq=>by unfold qE0;rw[J4,if_neg (by omega),J4,if_neg (by omega),J4,if_neg (by omega)]⟩
theorem qp0(w:World)(b p:Nat)(u v x:Value):q9 (fun k=>k=b) w (((w.setCell ⟨b,p,none⟩ u).setCell ⟨b,p+1,none⟩ v).setCell ⟨b,p+2,none⟩ x) :=
 (((q9.refl (fun k=>k=b) w).setCell (p:=⟨b,p,none⟩) (fun _=>rfl) _).setCell (p:=⟨b,p+1,none⟩) (fun _=>rfl) _).setCell (p:=⟨b,p+2,none⟩) (fun _=>rfl) _
structure Sml(n:Nat)(T:Tb):Prop where
 lo:∀ i j,i<n->j<n -> -1000000<=T.by_ i j
 hi:∀ i j,i<n->j<n->T.by_ i j<=1000000
theorem V9.sml{n:Nat}{far:Int}{V:(Nat->Int)->Prop}{H:Nat->(Nat->Int)->Prop}{K:Nat}{T:Tb}(h:V9 n far V H K T)(hf:far<=1000000):Sml n T :=
 ⟨fun i j hi hj=>by have:=h.lo hi hj;omega,fun i j hi hj=>by have:=h.hi i j hi hj;omega⟩
theorem qE1{w:World}{g o n:Nat}{C:Array Value}{X:W9}{i j:Nat}{m:Int}{mw:M3}(kb:w.heap[g]?=some (.cells C 203))(hT:J9 C o n X)(hn:n<=13)(hi:i<n)(hj:j<n)(hS:Sml n X.t)(hm:-1000000<=m/\m<=1000000)(hbad:m+X.t.by_ j i<0):
  Calls prog 99 #[.pointer (some ⟨g,o,none⟩),.int .i64 i,.int .i64 j,.agg #[.int .i64 m,.int .u64 mw.a.toNat,.int .u64 mw.b.toNat,.int .u64 mw.c.toNat]] w fun e w'=>e=.returned (.bool false)/\O0 w g o n C ⟨X.t,X.news,mw.or (X.t.why j i)⟩ w':=by
 obtain⟨hm1,hm2⟩:=hm;have s1:=hS.lo j i hj hi;have s2:=hS.hi j i hj hi;obtain⟨t0,t1,t2,t3⟩:=hT.cell kb (i:=j) (j:=i) (by omega) (by omega);have hi13:i<13:=by omega
 have hj13:j<13:=by omega
 have hgl:=z8 kb;have KB:=q8 kb;have HT:=q8 hT;clear kb hT hS;go_enter func99,ntmps99;go_wp2_with fail;refine(zg9 mw (X.t.why j i) _).mono ?_;rintro e w3 ⟨rfl,hx3⟩;have hx4:q9 (fun _=>False) w w3:=(((q9.refl (fun _=>False) w).alloc _).alloc _).trans hx3;have k3:=(hx4.block _ hgl (fun f=>f)).trans KB.out;have x0:=(z6 k3 (o+678)).trans HT.out.xa;have x1:=(z6 k3 (o+678+1)).trans HT.out.xb;have x2:=(z6 k3 (o+678+2)).trans HT.out.xc;have f0:=Q8 k3 (o+678);have f1:=Q8 k3 (o+678+1);have f2:=Q8 k3 (o+678+2);have K3:=q8 k3;have HX4:=q8 hx4;simp only[M3.val,u64];clear hx3 hx4 k3 t0 t1 t2 t3;go_wp2_with fail;go_ret;refine⟨rfl,?_,qE0 C o (mw.or (X.t.why j i)),?_,HT.out.setWrong _,X9.wrong _ _ _⟩
 ·exact(HX4.out.mono (fun _ _ f=>f.elim)).trans (qp0 _ _ _ _ _ _)
 ·exact Y4 (Y4 (Y4 K3.out _ _) _ _) _ _
theorem qf8{w:World}{g o n:Nat}{C:Array Value}{X:W9}{i j:Nat}{m:Int}{mw:M3}(kb:w.heap[g]?=some (.cells C 203))(hT:J9 C o n X)(hn:n<=13)(hi:i<n)(hj:j<n)(hS:Sml n X.t)(hm:-1000000<=m/\m<=1000000)(hbad:0<=m+X.t.by_ j i)(hk:X.t.by_ i j<=m):
  Calls prog 99 #[.pointer (some ⟨g,o,none⟩),.int .i64 i,.int .i64 j,.agg #[.int .i64 m,.int .u64 mw.a.toNat,.int .u64 mw.b.toNat,.int .u64 mw.c.toNat]] w fun e w'=>e=.returned (.bool true)/\O0 w g o n C X w':=by
 obtain⟨hm1,hm2⟩:=hm;have s1:=hS.lo j i hj hi;have s2:=hS.hi j i hj hi;obtain⟨t0,t1,t2,t3⟩:=hT.cell kb (i:=j) (j:=i) (by omega) (by omega);obtain⟨r0,_,_,_⟩:=hT.cell kb (i:=i) (j:=j) (by omega) (by omega);have hi13:i<13:=by omega
 have hj13:j<13:=by omega
 have hgl:=z8 kb;have KB:=q8 kb;have HT:=q8 hT;clear kb hT hS;go_enter func99,ntmps99;go_wp2_with fail
 go_region
 go_wp2_with fail;go_ret;refine⟨rfl,?_,C,?_,HT.out,X9.refl _ _⟩
 ·exact((((q9.refl (fun k=>k=g) w).alloc _).alloc _).drew)
 ·exact((((q9.refl (fun _=>False) w).alloc _).alloc _).drew.block _ hgl (fun f=>f)).trans KB.out
structure qE2(W:World)(g o n:Nat)(C:Array Value)(Y:W9)(wr:World):Prop where
 ext:q9 (fun k=>k=g) W wr
 ex:∃ C',wr.heap[g]?=some (.cells C' 203)/\J9 C' o n Y/\X9 C C' o
theorem qE2.next{W wr wx w':World}{g o n:Nat}{C C':Array Value}{Y Y':W9}(h:qE2 W g o n C Y wr)(hs:X9 C C' o)(hx:q9 (fun _=>False) wr wx)(hp:O0 wx g o n C' Y' w'):qE2 W g o n C Y' w':=by obtain⟨h1,C2,h2,h3,h4⟩:=hp;exact⟨(h.ext.trans (hx.mono (fun _ _ f=>f.elim))).trans h1,C2,h2,h3,hs.trans h4⟩
theorem qE3{w:World}{g o n:Nat}{C:Array Value}{X:W9}{i j:Nat}{m:Int}{mw:M3}{far:Int}{V:(Nat->Int)->Prop}{H:Nat->(Nat->Int)->Prop}{K:Nat}(kb:w.heap[g]?=some (.cells C 203))(hT:J9 C o n X)(hn:n<=13)(hi:i<n)(hj:j<n)(hI:V9 n far V H K X.t)(hfar:far<=1000000)(hm:-1000000<=m/\m<=1000000)(hbad:0<=m+X.t.by_ j i)(hk:m<X.t.by_ i j):
  Calls prog 99 #[.pointer (some ⟨g,o,none⟩),.int .i64 i,.int .i64 j,.agg #[.int .i64 m,.int .u64 mw.a.toNat,.int .u64 mw.b.toNat,.int .u64 mw.c.toNat]] w fun e w'=>e=.returned (.bool true)/\O0 w g o n C ⟨X.t.lim n i j m mw,true,X.wrong⟩ w':=by
 have hS:=V9.sml hI hfar;obtain⟨hm1,hm2⟩:=hm;have s1:=hS.lo j i hj hi;have s2:=hS.hi j i hj hi;obtain⟨t0,t1,t2,t3⟩:=hT.cell kb (i:=j) (j:=i) (by omega) (by omega);obtain⟨r0,_,_,_⟩:=hT.cell kb (i:=i) (j:=j) (by omega) (by omega);have n0:=(z6 kb (o+677)).trans hT.news;have nf:=Q8 kb (o+677);have z0:=(z6 kb (o+676)).trans hT.size;have hi13:i<13:=by omega
 have hj13:j<13:=by omega
 have hgl:=z8 kb;have KB:=q8 kb;have HT:=q8 hT;have HI:=q8 hI;have HS:=q8 hS;have HB:=q8 hbad;clear kb hT hS hI;go_enter func99,ntmps99;go_wp2_with fail
 go_region
 go_wp2_with fail;obtain⟨W,hW⟩:∃ W,(((w.setCell ⟨g,o+677,none⟩ (.bool true)).alloc (Obj.cells #[.int .i64 m,.int .u64 mw.a.toNat,.int .u64 mw.b.toNat,.int .u64 mw.c.toNat] 199)).alloc (Obj.cells #[.int .i64 (X.t.by_ j i),.int .u64 (X.t.why j i).a.toNat,.int .u64 (X.t.why j i).b.toNat,.int .u64 (X.t.why j i).c.toNat] 199)).drew=W:=⟨_,rfl⟩;have hsz:(w.setCell ⟨g,o+677,none⟩ (.bool true)).heap.size=w.heap.size:=by simp
 have hxW:q9 (fun k=>k=g) w W:=by rw[<- hW];exact((((q9.refl (fun k=>k=g) w).setCell (p:=⟨g,o+677,none⟩) (fun _=>rfl) _).alloc _).alloc _).drew
 have kW:W.heap[g]?=some (.cells (C.setIfInBounds (o+677) (.bool true)) 203):=by rw[<- hW];exact(((((q9.refl (fun _=>False) (w.setCell ⟨g,o+677,none⟩ (.bool true))).alloc _).alloc _).drew).block _ (by rw[hsz];exact hgl) (fun f=>f)).trans (Y4 KB.out _ _)
 have kM:W.heap[w.heap.size]?=some (.cells #[.int .i64 m,.int .u64 mw.a.toNat,.int .u64 mw.b.toNat,.int .u64 mw.c.toNat] 199):=by rw[<- hW];show((_:World).alloc _).heap[w.heap.size]?=_;rw[heap_alloc_old _ _ (by simp),<- hsz];exact heap_alloc_new _ _
 have hL0:qE2 W g o n C ⟨X.t.limP n i j m mw 0 0,true,X.wrong⟩ W:=⟨q9.refl _ _,_,kW,by rw[qL0];exact HT.out.setNews true,X9.news _ _ _⟩;have hMl:=z8 kM;have hMg:¬w.heap.size=g:=by omega
 rw[hW];have HXW:=q8 hxW;have KM:=q8 kM;have HL0:=q8 hL0;clear hW hxW kW kM hL0 hsz t0 t1 t2 t3 r0 n0 nf z0
 go_loopw [53] (fun r wr=>∃ f:Nat,f<=n/\r=.int .i64 f/\qE2 W g o n C ⟨X.t.limP n i j m mw f 0,true,X.wrong⟩ wr) (fun r _=>n-(intOf r).toNat)
 case atStart=>exact⟨0,Nat.zero_le _,rfl,HL0.out⟩
 case round=>
  obtain⟨f,hf,rfl,hL⟩:=hrel;clear HL0;have HL:=q8 hL;obtain⟨C1,kg,hT1,hs1⟩:=hL.ex;have z0:=(z6 kg (o+676)).trans hT1.size;clear hL kg hT1 hs1;by_cases hlt:f<n
  ·go_wp2_with fail
   go_loopw [60] (fun r wq=>∃ t:Nat,t<=n/\r=.int .i64 t/\qE2 W g o n C ⟨X.t.limP n i j m mw f t,true,X.wrong⟩ wq) (fun r _=>n-(intOf r).toNat)
   case atStart=>exact⟨0,Nat.zero_le _,rfl,HL.out⟩
   case round=>
   obtain⟨t,ht,rfl,hL⟩:=hrel;clear HL z0;have HL:=q8 hL;obtain⟨C1,kg,hT1,hs1⟩:=hL.ex;by_cases htn:t<n
   ·obtain⟨p0,p1,p2,p3⟩:=hT1.cell kg (i:=f) (j:=i) (by omega) hi13;obtain⟨q0,q1,q2,q3⟩:=hT1.cell kg (i:=j) (j:=t) hj13 (by omega);obtain⟨c1,c2⟩:=qW6 HI.out (mw:=mw) hi hj HB.out f t f;obtain⟨c3,c4⟩:=qL1 HI.out (mw:=mw) hi hj HB.out f t t htn;simp only at p0 p1 p2 p3 q0 q1 q2 q3;rw[c1] at p0;rw[c2] at p1 p2 p3;rw[c3] at q0;rw[c4] at q1 q2 q3;have kM:=(hL.ext.block _ hMl hMg).trans KM.out;have m0:=z6 kM 0;have m1:=z6 kM 1;have m2:=z6 kM 2;have m3:=z6 kM 3;have hf13:f<13:=by omega
    have ht13:t<13:=by omega
    have hfi:(f:Int)<13:=by omega
    have hti:(t:Int)<13:=by omega
    have hii:(i:Int)<13:=by omega
    have hji:(j:Int)<13:=by omega
    have HKG:=q8 kg;have HT1:=q8 hT1;have HS1:=q8 hs1;have l1:=HS.out.lo f i hlt hi;have l2:=HS.out.hi f i hlt hi;have l3:=HS.out.lo j t hj htn;have l4:=HS.out.hi j t hj htn;have hgr:=z8 kg;have HSH:=q8 (qf7 (w:=(wr.drew).alloc (.cells (zm0 (X.t.by_ f i) m (X.t.by_ j t) (X.t.why f i) mw (X.t.why j t)) 199)) (wb:=wr.heap.size) (f:=f) (t:=t) (((((q9.refl (fun _=>False) wr).drew).alloc _).block _ hgr (fun f=>f)).trans kg) hT1 (heap_alloc_new wr.drew _) hf13 ht13 (by omega) (by omega) (by omega));have HXD:Hid (q9 (fun _=>False) wr ((wr.drew).alloc (.cells (zm0 (X.t.by_ f i) m (X.t.by_ j t) (X.t.why f i) mw (X.t.why j t)) 199))):=((q9.refl _ wr).drew).alloc _;simp only[zm0] at HSH HXD;clear hL kg hT1 hs1 kM c1 c2 c3 c4 l1 l2 l3 l4;go_wp2_with fail
    go_region_law (go_simp;go_wp2_with (go_at_call 140;refine HSH.out.mono ?_;rintro e w3 ⟨rfl,hp3⟩;have HP3:=q8 hp3;clear hp3))
    all_goals
     go_wp2_with fail
     go_roundw
     case measure=>simp[intOf];omega
     case rel=>refine⟨t+1,by omega,by go_num,?_⟩;have:=HL.out.next HS1.out HXD.out HP3.out;rw[qL2 hlt htn] at this;exact this
   ·have htl:t=n:=by omega
    subst htl;clear hL kg hT1 hs1;go_wp2_with fail
    go_roundw
    case measure=>simp[intOf];omega
    case rel=>exact⟨f+1,by omega,by go_num,by rw[<- qW4];exact HL.out⟩
  ·have hfl:f=n:=by omega
   subst hfl;go_wp2_with fail;go_ret;rw[qW5] at HL;obtain⟨C1,kg,hT1,hs1⟩:=HL.out.ex;exact⟨rfl,HXW.out.trans HL.out.ext,C1,kg,hT1,hs1⟩
section
variable{w:World}{g o n:Nat}{C:Array Value}{X:W9}{i j:Nat}{m:Int}{mw:M3}{far:Int}{V:(Nat->Int)->Prop}{H:Nat->(Nat->Int)->Prop}{K:Nat}
def TC(w:World)(g o n:Nat)(C:Array Value)(far:Int)(V:(Nat->Int)->Prop)(H:Nat->(Nat->Int)->Prop)(K:Nat)(X:W9)(R:W9->Prop)(e:Ending)(w':World):Prop :=
 ∃ Y ok,e=.returned (.bool ok)/\O0 w g o n C Y w'/\TPost n far V H K X Y ok/\(ok=true->R Y)
theorem za5(kb:w.heap[g]?=some (.cells C 203))(hT:J9 C o n X)(hn:n<=13)(hi:i<n)(hj:j<n)(hI:V9 n far V H K X.t)(hfar:far<=1000000)(hm:-1000000<=m/\m<=1000000)(hmk:J8 K mw)(hs:∀ v,V v->Hs H mw v->v i-v j<=m):
  Calls prog 99 #[.pointer (some ⟨g,o,none⟩),.int .i64 i,.int .i64 j,.agg #[.int .i64 m,.int .u64 mw.a.toNat,.int .u64 mw.b.toNat,.int .u64 mw.c.toNat]] w (TC w g o n C far V H K X (fun Y=>Y.t.by_ i j<=m/\(X.t.by_ i j<=m\/Y.news=true))):=by
 have hS:=V9.sml hI hfar;obtain⟨h1,h2⟩:=qu6 hI hi hj hmk hs;by_cases hb:m+X.t.by_ j i<0
 ·refine(qE1 (mw:=mw) kb hT hn hi hj hS hm hb).mono ?_;rintro e w' ⟨rfl,hp⟩;unfold W9.limit at h1 h2;rw[if_pos hb] at h1 h2;exact⟨_,false,rfl,hp,h1,fun e=>by simp at e⟩
 ·by_cases hk:X.t.by_ i j<=m
  ·refine(qf8 (mw:=mw) kb hT hn hi hj hS hm (by omega) hk).mono ?_;rintro e w' ⟨rfl,hp⟩;unfold W9.limit at h1 h2;rw[if_neg hb,if_pos hk] at h1 h2;exact⟨X,true,rfl,hp,h1,fun _=>⟨hk,.inl hk⟩⟩
  ·refine(qE3 (mw:=mw) kb hT hn hi hj hI hfar hm (by omega) (by omega)).mono ?_;rintro e w' ⟨rfl,hp⟩;unfold W9.limit at h1 h2;rw[if_neg hb,if_neg hk] at h1 h2;exact⟨_,true,rfl,hp,h1,fun e=>⟨h2 e,.inr rfl⟩⟩
theorem O0.trans{w1 w2:World}{C1:Array Value}{Z:W9}(h1:q9 (fun k=>k=g) w w1)(h2:X9 C C1 o)(h3:O0 w1 g o n C1 Z w2):O0 w g o n C Z w2:=by obtain⟨a,C2,b,c,d⟩:=h3;exact⟨h1.trans a,C2,b,c,h2.trans d⟩
theorem zK5(kb:w.heap[g]?=some (.cells C 203))(hT:J9 C o n X)(hn:n<=13)(hi:i<n)(hj:j<n)(hI:V9 n far V H K X.t)(hfar:far<=1000000)(hmk:J8 K mw)(hs:∀ v,V v->Hs H mw v->v i=v j):
  Calls prog 267 #[.pointer (some ⟨g,o,none⟩),.int .i64 i,.int .i64 j,.agg #[.int .u64 mw.a.toNat,.int .u64 mw.b.toNat,.int .u64 mw.c.toNat]] w (TC w g o n C far V H K X (fun Y=>Y.t.by_ i j<=0/\Y.t.by_ j i<=0)):=by
 obtain⟨W,hW⟩:∃ W,w.alloc (.cells #[.int .u64 mw.a.toNat,.int .u64 mw.b.toNat,.int .u64 mw.c.toNat] 197)=W:=⟨_,rfl⟩;have hxW:q9 (fun _=>False) w W:=by rw[<- hW];exact(q9.refl _ w).alloc _
 have kW:=(hxW.block _ (z8 kb) (fun f=>f)).trans kb;have kM:W.heap[w.heap.size]?=some (.cells #[.int .u64 mw.a.toNat,.int .u64 mw.b.toNat,.int .u64 mw.c.toNat] 197):=by rw[<- hW];exact heap_alloc_new w _
 have hgl:=z8 kb;have HC:=q8 (za5 (m:=0) kW hT hn hi hj hI hfar (by omega) hmk (fun v hv hh=>by have:=hs v hv hh;omega));have HS:=q8 hs;have HWE:=q8 hW;have HXW:=q8 hxW;have KM:=q8 kM;clear hW hxW kW hs kM kb hT;go_enter func267,ntmps267;go_wp2_with fail;rw[HWE.out];refine HC.out.mono ?_;rintro e w1 ⟨Y,ok,rfl,⟨hx1,C1,k1,hT1,hs1⟩,hP1,hR1⟩;have HX1:=q8 hx1;have HS1:=q8 hs1;have HP1:=q8 hP1;cases ok with
 | false=>have HTP:Hid (O0 w g o n C Y w1):=⟨(HXW.out.mono (fun _ _ f=>f.elim)).trans hx1,C1,k1,hT1,hs1⟩;clear hx1 k1 hT1 hs1 hP1 hR1 HC;go_wp2_with fail;go_ret;exact⟨Y,false,rfl,HTP.out,HP1.out,fun e=>by simp at e⟩
 | true=>
  have hI1:=hP1.inv rfl;have hl1:=hR1 rfl;have kM1:=(hx1.block _ (z8 KM.out) (by omega)).trans KM.out;have m0:=z6 kM1 0;have m1:=z6 kM1 1;have m2:=z6 kM1 2;have HC2:=q8 (za5 (m:=0) k1 hT1 hn hj hi hI1 hfar (by omega) hmk (fun v hv hh=>by have:=HS.out v hv hh;omega));have HR1:=q8 hl1.1;clear hx1 k1 hT1 hs1 hP1 hR1 HC kM1 hl1 hI1;go_wp2_with fail;refine HC2.out.mono ?_;rintro e w2 ⟨Z,ok2,rfl,hTP2,hP2,hR2⟩;have HTP2:=q8 hTP2;have HP2:=q8 hP2;have HR2:=q8 hR2;clear hTP2 hP2 hR2 HC2;go_wp2_with fail;go_ret;refine⟨Z,ok2,?_,O0.trans ((HXW.out.mono (fun _ _ f=>f.elim)).trans HX1.out) HS1.out HTP2.out,HP1.out.trans HP2.out,fun e=>⟨?_,(HR2.out e).1⟩⟩
  ·cases ok2<;>rfl
  ·have:=HP2.out.le i j hi hj;have:=HR1.out;omega
theorem zv9(kb:w.heap[g]?=some (.cells C 203))(hT:J9 C o n X)(hn:n<=13)(hi:i<n)(hj:j<n)(hI:V9 n far V H K X.t)(hfar:far<=1000000)(hmk:J8 K mw)(hs:∀ v,V v->Hs H mw v->v i≠v j):
  Calls prog 276 #[.pointer (some ⟨g,o,none⟩),.int .i64 i,.int .i64 j,.agg #[.int .u64 mw.a.toNat,.int .u64 mw.b.toNat,.int .u64 mw.c.toNat]] w (TC w g o n C far V H K X (fun Y=>Y.news=false->Y.t.by_ i j≠0)):=by
 obtain⟨t0,t1,t2,t3⟩:=hT.cell kb (i:=i) (j:=j) (by omega) (by omega);have hi13:i<13:=by omega
 have hj13:j<13:=by omega
 have hgl:=z8 kb;have KB:=q8 kb;have HT:=q8 hT;have HI:=q8 hI;have HS:=q8 hs;obtain⟨W,hW⟩:∃ W,(w.alloc (.cells #[.int .u64 mw.a.toNat,.int .u64 mw.b.toNat,.int .u64 mw.c.toNat] 197)).alloc (.cells #[.int .i64 (X.t.by_ i j),.int .u64 (X.t.why i j).a.toNat,.int .u64 (X.t.why i j).b.toNat,.int .u64 (X.t.why i j).c.toNat] 199)=W:=⟨_,rfl⟩;have hxW:q9 (fun _=>False) w W:=by rw[<- hW];exact((q9.refl _ w).alloc _).alloc _
 have HXW:=q8 hxW;have HWE:=q8 hW;clear hW hxW hs kb hT hI;by_cases h0:X.t.by_ i j=0
 ·have hn0:(X.t.by_ i j != 0)=false:=by simpa using h0
  have H0:=q8 h0;clear h0;go_enter func276,ntmps276;go_wp2_with fail;rw[HWE.out];refine(zg9 (X.t.why i j) mw W).mono ?_;rintro e w1 ⟨rfl,hx1⟩;have HX1:Hid (q9 (fun _=>False) w w1):=HXW.out.trans hx1;have HC:=q8 (za5 (m := -1) ((HX1.out.block _ hgl (fun f=>f)).trans KB.out) HT.out hn hi hj HI.out hfar (by omega) ((HI.out.mks i j hi hj).or hmk) (fun v hv hh=>by rw[Hs.or] at hh;have a1:=HI.out.snd i j hi hj v hv hh.1;have a2:=HS.out v hv hh.2;have a3:=H0.out;omega))
  simp only[M3.val,u64];clear hx1 t0 t1 t2 t3;go_wp2_with fail;refine HC.out.mono ?_;rintro e w2 ⟨Y,ok,rfl,hTP,hP,hR⟩;have HTP:=q8 hTP;have HP:=q8 hP;have HR:=q8 hR;clear hTP hP hR HC;go_wp2_with fail;go_ret;refine⟨Y,ok,?_,O0.trans (HX1.out.mono (fun _ _ f=>f.elim)) (X9.refl _ _) HTP.out,HP.out,fun e hnw=>?_⟩
  ·cases ok<;>rfl
  ·have h1:=HR.out e;have h2:=H0.out;have h3:=h1.1;omega
 ·have hn0:(X.t.by_ i j != 0)=true:=by simpa using h0
  have H0:=q8 h0;clear h0;go_enter func276,ntmps276;go_wp2_with fail;go_ret;rw[HWE.out];exact⟨X,true,rfl,⟨HXW.out.mono (fun _ _ f=>f.elim),C,(HXW.out.block _ hgl (fun f=>f)).trans KB.out,HT.out,X9.refl _ _⟩,TPost.refl HI.out,fun _ _=>H0.out⟩
theorem qE4(kb:w.heap[g]?=some (.cells C 203))(hT:J9 C o n X)(hn:n<=13)(hi:i<n)(hj:j<n)(hI:V9 n far V H K X.t)(hfar:far<=1000000)(hmk:J8 K mw)(hs:∀ v,V v->Hs H mw v->v i≠v j):
  Calls prog 273 #[.pointer (some ⟨g,o,none⟩),.int .i64 i,.int .i64 j,.agg #[.int .u64 mw.a.toNat,.int .u64 mw.b.toNat,.int .u64 mw.c.toNat]] w (TC w g o n C far V H K X (fun Y=>Y.news=false->Y.t.by_ i j≠0/\Y.t.by_ j i≠0)):=by
 obtain⟨W,hW⟩:∃ W,w.alloc (.cells #[.int .u64 mw.a.toNat,.int .u64 mw.b.toNat,.int .u64 mw.c.toNat] 197)=W:=⟨_,rfl⟩;have hxW:q9 (fun _=>False) w W:=by rw[<- hW];exact(q9.refl _ w).alloc _
 have kW:=(hxW.block _ (z8 kb) (fun f=>f)).trans kb;have kM:W.heap[w.heap.size]?=some (.cells #[.int .u64 mw.a.toNat,.int .u64 mw.b.toNat,.int .u64 mw.c.toNat] 197):=by rw[<- hW];exact heap_alloc_new w _
 have hgl:=z8 kb;have HC:=q8 (zv9 kW hT hn hi hj hI hfar hmk hs);have HS:=q8 hs;have HWE:=q8 hW;have HXW:=q8 hxW;have KM:=q8 kM;clear hW hxW kW hs kM kb hT;go_enter func273,ntmps273;go_wp2_with fail;rw[HWE.out];refine HC.out.mono ?_;rintro e w1 ⟨Y,ok,rfl,⟨hx1,C1,k1,hT1,hs1⟩,hP1,hR1⟩;have HX1:=q8 hx1;have HS1:=q8 hs1;have HP1:=q8 hP1;have HR1:=q8 hR1;cases ok with
 | false=>have HTP:Hid (O0 w g o n C Y w1):=⟨(HXW.out.mono (fun _ _ f=>f.elim)).trans hx1,C1,k1,hT1,hs1⟩;clear hx1 k1 hT1 hs1 hP1 hR1 HC;go_wp2_with fail;go_ret;exact⟨Y,false,rfl,HTP.out,HP1.out,fun e=>by simp at e⟩
 | true=>
  have hI1:=hP1.inv rfl;have kM1:=(hx1.block _ (z8 KM.out) (by omega)).trans KM.out;have m0:=z6 kM1 0;have m1:=z6 kM1 1;have m2:=z6 kM1 2;have HC2:=q8 (zv9 k1 hT1 hn hj hi hI1 hfar hmk (fun v hv hh e=>HS.out v hv hh e.symm));clear hx1 k1 hT1 hs1 hP1 hR1 HC kM1 hI1;go_wp2_with fail;refine HC2.out.mono ?_;rintro e w2 ⟨Z,ok2,rfl,hTP2,hP2,hR2⟩;have HTP2:=q8 hTP2;have HP2:=q8 hP2;have HR2:=q8 hR2;clear hTP2 hP2 hR2 HC2;go_wp2_with fail;go_ret;refine⟨Z,ok2,?_,O0.trans ((HXW.out.mono (fun _ _ f=>f.elim)).trans HX1.out) HS1.out HTP2.out,HP1.out.trans HP2.out,fun e hnw=>⟨?_,HR2.out e hnw⟩⟩
  ·cases ok2<;>rfl
  ·obtain⟨h1,h2⟩:=HP2.out.news hnw;rw[h2];exact HR1.out (by simp) h1
end
structure PA where
 wd:ByteArray
 i:Nat
 j:Nat
 b:Int
def PA.at_(x:PA):At:=⟨x.wd.toList,x.i,x.j,x.b⟩
def PA.cells(x:PA):List Value:=[.string x.wd,.int .i64 x.i,.int .i64 x.j,.int .i64 x.b]
theorem PA.words{x:PA}(h:x.at_.Ok):x.wd=⟨#[61]⟩\/x.wd=⟨#[60]⟩\/x.wd=⟨#[60,61]⟩\/x.wd=⟨#[108,101]⟩:=by
 rcases h.1 with e|e|e|e
 ·exact .inl (zr4 e)
 ·exact .inr (.inl (zr4 e))
 ·exact .inr (.inr (.inl (zr4 e)))
 ·exact .inr (.inr (.inr (zr4 e)))
theorem qP0:¬(⟨#[61]⟩:ByteArray).toList=[60]:=by decide +kernel
theorem qx6:¬(⟨#[60,61]⟩:ByteArray).toList=[60]:=by decide +kernel
theorem qx7:¬(⟨#[108,101]⟩:ByteArray).toList=[60]:=by decide +kernel
theorem qf9:(⟨#[60]⟩:ByteArray).toList=[60]:=by decide +kernel
theorem qx8:(⟨#[61]⟩:ByteArray).toList=[61]:=by decide +kernel
theorem qx9:¬(⟨#[60]⟩:ByteArray).toList=[61]:=by decide +kernel
theorem qy0:¬(⟨#[60,61]⟩:ByteArray).toList=[61]:=by decide +kernel
theorem qy1:¬(⟨#[108,101]⟩:ByteArray).toList=[61]:=by decide +kernel
theorem zc8{w:World}(x:PA)(hx:x.at_.Ok):Calls prog 266 #[.agg #[.string x.wd,.int .i64 x.i,.int .i64 x.j,.int .i64 x.b]] w fun e w'=>e=.returned (.int .i64 x.at_.ex)/\q9 (fun _=>False) w w':=by
 have hw:=PA.words hx;obtain⟨wd,i,j,b⟩:=x;simp only at hw;clear hx;rcases hw with rfl|rfl|rfl|rfl
 ·have he:(PA.at_ ⟨⟨#[61]⟩,i,j,b⟩).ex=b:=if_neg qP0;rw[he];go_enter func266,ntmps266;go_wp2_with fail;go_ret;exact⟨rfl,(q9.refl _ w).alloc _⟩
 ·have he:(PA.at_ ⟨⟨#[60]⟩,i,j,b⟩).ex = -1:=if_pos qf9;rw[he];go_enter func266,ntmps266;go_wp2_with fail;go_ret;exact⟨rfl,(q9.refl _ w).alloc _⟩
 ·have he:(PA.at_ ⟨⟨#[60,61]⟩,i,j,b⟩).ex=b:=if_neg qx6;rw[he];go_enter func266,ntmps266;go_wp2_with fail;go_ret;exact⟨rfl,(q9.refl _ w).alloc _⟩
 ·have he:(PA.at_ ⟨⟨#[108,101]⟩,i,j,b⟩).ex=b:=if_neg qx7;rw[he];go_enter func266,ntmps266;go_wp2_with fail;go_ret;exact⟨rfl,(q9.refl _ w).alloc _⟩
theorem qp3{w:World}(x:PA)(p q:Int)(hx:x.at_.Ok)(hq:-1000000<=q/\q<=1000000)(hb:-1000<=x.b/\x.b<=1000):Calls prog 263 #[.string x.wd,.int .i64 p,.int .i64 q,.int .i64 x.b] w fun e w'=>e=.returned (.bool (zi2 x.wd.toList p q x.b))/\w' = w:=by
 have hw:=PA.words hx;obtain⟨wd,i,j,b⟩:=x;simp only at hw hb;obtain⟨hq1,hq2⟩:=hq;obtain⟨hb1,hb2⟩:=hb;clear hx;rcases hw with rfl|rfl|rfl|rfl
 ·have he:zi2 (⟨#[61]⟩:ByteArray).toList p q b=decide (p=q):=if_pos qx8;simp only;rw[he];go_enter func263,ntmps263;go_wp2_with fail;go_ret;exact⟨by simp[BEq.beq],rfl⟩
 ·have he:zi2 (⟨#[60]⟩:ByteArray).toList p q b=decide (p<q):=by unfold zi2;rw[if_neg qx9,if_pos qf9]
  simp only;rw[he];go_enter func263,ntmps263;go_wp2_with fail;go_ret;exact⟨rfl,rfl⟩
 ·have he:zi2 (⟨#[60,61]⟩:ByteArray).toList p q b=decide (p<=q):=by unfold zi2;rw[if_neg qy0,if_neg qx6,if_pos (by decide +kernel)]
  simp only;rw[he];go_enter func263,ntmps263;go_wp2_with fail;go_ret;exact⟨rfl,rfl⟩
 ·have he:zi2 (⟨#[108,101]⟩:ByteArray).toList p q b=decide (p<=q+b):=by unfold zi2;rw[if_neg qy1,if_neg qx7,if_neg (by decide +kernel)]
  simp only;rw[he];go_enter func263,ntmps263;go_wp2_with fail;go_ret;exact⟨rfl,rfl⟩
structure zw0(w:World)(bv:Value)(g n:Nat)(TT:List W9):Prop where
 ex:∃ (cap:Nat) (C:Array Value),bv=.slice (some ⟨g,0,none⟩) TT.length cap/\w.heap[g]?=some (.cells C 203)/\C.size=cap*681/\TT.length<=cap/\cap<=maxLen/\∀ k X,TT[k]?=some X->J9 C (k*681) n X
def X1(As:List (PA × Bool)):List Value:=As.flatMap (fun x=>x.1.cells++[.bool x.2])
def za2(tw:List (Nat × Nat)):List Value:=tw.flatMap (fun x=>[.int .i64 x.1,.int .i64 x.2])
structure ThV where
 tv:Value
 av:Value
 wv:Value
 sv:Value
 bv:Value
structure ThR(w:World)(hb g:Nat)(c:ThV)(TK:List Z3)(AK:List PA)(tw:List (Nat × Nat))(As:List (PA × Bool))(TT:List W9):Prop where
 blk:w.heap[hb]?=some (.cells #[c.tv,c.av,c.wv,c.sv,c.bv] 194)
 ts:w.ownsRow 0 145 6 c.tv TK.length (TK.flatMap Z3.cells)
 ats:w.ownsRow 0 153 4 c.av AK.length (AK.flatMap PA.cells)
 tw:w.ownsRow 0 151 2 c.wv tw.length (za2 tw)
 ss:w.ownsRow 0 382 5 c.sv As.length (X1 As)
 tb:zw0 w c.bv g (TK.length+1) TT
theorem zg5{w:World}{hb g:Nat}{c:ThV}{TK:List Z3}{AK:List PA}{tw:List (Nat × Nat)}{As:List (PA × Bool)}{TT:List W9}(h:ThR w hb g c TK AK tw As TT)(hne:0<TT.length)(hl:TT.length<=1000):
  Calls prog 259 #[.pointer (some ⟨hb,0,none⟩)] w fun e w'=>e=.returned (.pointer (some ⟨g,(TT.length-1)*681,none⟩))/\w' = w.drew:=by
 obtain⟨cap,C,hbv,kg,hC,hcap,hcm,_⟩:=h.tb.ex;have kb:=h.blk;rw[hbv] at kb;have c4:=z6 kb 4;obtain⟨n,hn⟩:∃ n,TT.length=n+1:=⟨TT.length-1,by omega⟩;rw[hn] at c4 hcap hl;rw[hn,Nat.add_sub_cancel];clear h kb hbv kg hC hcm hn hne;go_enter func259,ntmps259;go_wp2_with fail
 go_region
 go_wp2_with fail;go_ret;exact⟨rfl,rfl⟩
section
variable{w:World}{g o n:Nat}{C:Array Value}{X:W9}{mw:M3}{far:Int}{V:(Nat->Int)->Prop}{H:Nat->(Nat->Int)->Prop}{K:Nat}
theorem TC.more{W w':World}{R:W9->Prop}{e:Ending}(hx:q9 (fun _=>False) w W)(h:TC W g o n C far V H K X R e w'):TC w g o n C far V H K X R e w':=by obtain⟨Y,ok,h1,h2,h3,h4⟩:=h;exact⟨Y,ok,h1,O0.trans (hx.mono (fun _ _ f=>f.elim)) (X9.refl _ _) h2,h3,h4⟩
theorem qp1{T:Tb}{x:At}(h:x.wd=[61])(h2:T.by_ x.i x.j<=0/\T.by_ x.j x.i<=0):U7 T (x,true):=by show(if x.wd=[61] then _ else _);rw[if_pos h];exact fun _=>h2
theorem qp2{T:Tb}{x:At}(h:x.wd=[61]):U7 T (x,false):=by show(if x.wd=[61] then _ else _);rw[if_pos h];exact fun e=>by simp at e
theorem zx0{T:Tb}{x:At}(h:x.wd≠[61])(h2:T.by_ x.i x.j<=x.ex):U7 T (x,true):=by show(if x.wd=[61] then _ else _);rw[if_neg h];show(if true=true then _ else _);rw[if_pos rfl];exact h2
theorem zx1{T:Tb}{x:At}(h:x.wd≠[61])(h2:T.by_ x.j x.i <= -x.ex-1):U7 T (x,false):=by show(if x.wd=[61] then _ else _);rw[if_neg h];show(if false=true then _ else _);rw[if_neg (by decide)];exact h2
theorem jn0{i j:Nat}{b:Int}(kb:w.heap[g]?=some (.cells C 203))(hT:J9 C o n X)(hn:n<=13)(hi:i<n)(hj:j<n)(hI:V9 n far V H K X.t)(hfar:far<=1000000)(hmk:J8 K mw)(hx:(PA.at_ ⟨⟨#[61]⟩,i,j,b⟩).Ok)(_hb:-1000<=b/\b<=1000)(hs:∀ v,V v->Hs H mw v->(PA.at_ ⟨⟨#[61]⟩,i,j,b⟩).tr v=true):
  Calls prog 260 #[.pointer (some ⟨g,o,none⟩),.agg #[.string ⟨#[61]⟩,.int .i64 i,.int .i64 j,.int .i64 b],.bool true,.agg #[.int .u64 mw.a.toNat,.int .u64 mw.b.toNat,.int .u64 mw.c.toNat]] w (TC w g o n C far V H K X (fun Y=>U7 Y.t (PA.at_ ⟨⟨#[61]⟩,i,j,b⟩,true))):=by
 obtain⟨W,hW⟩:∃ W,(w.alloc (.cells #[.string ⟨#[61]⟩,.int .i64 i,.int .i64 j,.int .i64 b] 153)).alloc (.cells #[.int .u64 mw.a.toNat,.int .u64 mw.b.toNat,.int .u64 mw.c.toNat] 197)=W:=⟨_,rfl⟩;have hxW:q9 (fun _=>False) w W:=by rw[<- hW];exact((q9.refl _ w).alloc _).alloc _
 have kA:W.heap[w.heap.size]?=some (.cells #[.string ⟨#[61]⟩,.int .i64 i,.int .i64 j,.int .i64 b] 153):=by rw[<- hW,heap_alloc_old _ _ (by simp)];exact heap_alloc_new w _
 have kM:W.heap[w.heap.size+1]?=some (.cells #[.int .u64 mw.a.toNat,.int .u64 mw.b.toNat,.int .u64 mw.c.toNat] 197):=by rw[<- hW];exact heap_alloc2_new w _ _
 have hgl:=z8 kb;have HAL:Hid ((PA.at_ ⟨⟨#[61]⟩,i,j,b⟩).wd=[61]):=qx8;have hexe:(PA.at_ ⟨⟨#[61]⟩,i,j,b⟩).ex=b:=if_neg qP0;have HEX:=q8 (zc8 (w:=W.drew) ⟨⟨#[61]⟩,i,j,b⟩ hx);have HC:Hid (∀ W',q9 (fun _=>False) w W'->Calls prog 267 #[.pointer (some ⟨g,o,none⟩),.int .i64 i,.int .i64 j,.agg #[.int .u64 mw.a.toNat,.int .u64 mw.b.toNat,.int .u64 mw.c.toNat]] W' (TC W' g o n C far V H K X (fun Y=>Y.t.by_ i j<=0/\Y.t.by_ j i<=0))) :=
  fun W' hx'=>zK5 ((hx'.block _ hgl (fun f=>f)).trans kb) hT hn hi hj hI hfar hmk (fun v hv hh=>by have:=hs v hv hh;rw[At.tr_eq _ HAL.out] at this;exact of_decide_eq_true this)
 have KB:=q8 kb;have HT:=q8 hT;have HI:=q8 hI;have HXW:=q8 hxW;have HWE:=q8 hW;have KM:=q8 kM;have a0:=z6 kA 0;have a1:=z6 kA 1;have a2:=z6 kA 2;have a3:=z6 kA 3;have KA:=q8 kA;have HEXE:Hid ((PA.at_ ⟨⟨#[61]⟩,i,j,b⟩).ex=b):=hexe;simp only at HEX;rw[hexe] at HEX;clear kb hT hI hs hxW hW kM kA hexe hx;go_enter func260,ntmps260;go_wp2_with fail;rw[HWE.out]
 go_region_law (go_simp;go_wp2_with (go_at_call 266;refine HEX.out.mono ?_;rintro e w3 ⟨rfl,hx3⟩;have HX3:=q8 hx3;have k3:=(hx3.block _ (z8 KA.out) (fun f=>f)).trans KA.out;have b0:=z6 k3 0;have b1:=z6 k3 1;have b2:=z6 k3 2;have b3:=z6 k3 3;clear hx3 k3))
 all_goals
  have hxw3:q9 (fun _=>False) w w3:=HXW.out.trans (((q9.refl _ W).drew).trans HX3.out);have HX:=q8 hxw3;have kM3:=((((q9.refl (fun _=>False) W).drew).trans HX3.out).block _ (z8 KM.out) (fun f=>f)).trans KM.out;have m0:=z6 kM3 0;have m1:=z6 kM3 1;have m2:=z6 kM3 2;clear hxw3 kM3 HEX a0 a1 a2 a3;go_wp2_with fail;refine(HC.out w3 HX.out).mono ?_;rintro e w4 ⟨Y,ok,rfl,h2,h3,h4⟩;have HF:Hid (TC w g o n C far V H K X (fun Y=>U7 Y.t (PA.at_ ⟨⟨#[61]⟩,i,j,b⟩,true)) (.returned (.bool ok)) w4):=TC.more HX.out ⟨Y,ok,rfl,h2,h3,fun e=>qp1 HAL.out (h4 e)⟩;clear h2 h3 h4;go_wp2_with fail;go_ret;exact HF.out
theorem jn1{i j:Nat}{b:Int}(kb:w.heap[g]?=some (.cells C 203))(hT:J9 C o n X)(_hn:n<=13)(_hi:i<n)(_hj:j<n)(hI:V9 n far V H K X.t)(_hfar:far<=1000000)(_hmk:J8 K mw)(hx:(PA.at_ ⟨⟨#[61]⟩,i,j,b⟩).Ok)(_hb:-1000<=b/\b<=1000)(_hs:∀ v,V v->Hs H mw v->(PA.at_ ⟨⟨#[61]⟩,i,j,b⟩).tr v=false):
  Calls prog 260 #[.pointer (some ⟨g,o,none⟩),.agg #[.string ⟨#[61]⟩,.int .i64 i,.int .i64 j,.int .i64 b],.bool false,.agg #[.int .u64 mw.a.toNat,.int .u64 mw.b.toNat,.int .u64 mw.c.toNat]] w (TC w g o n C far V H K X (fun Y=>U7 Y.t (PA.at_ ⟨⟨#[61]⟩,i,j,b⟩,false))):=by
 obtain⟨W,hW⟩:∃ W,(w.alloc (.cells #[.string ⟨#[61]⟩,.int .i64 i,.int .i64 j,.int .i64 b] 153)).alloc (.cells #[.int .u64 mw.a.toNat,.int .u64 mw.b.toNat,.int .u64 mw.c.toNat] 197)=W:=⟨_,rfl⟩;have hxW:q9 (fun _=>False) w W:=by rw[<- hW];exact((q9.refl _ w).alloc _).alloc _
 have kA:W.heap[w.heap.size]?=some (.cells #[.string ⟨#[61]⟩,.int .i64 i,.int .i64 j,.int .i64 b] 153):=by rw[<- hW,heap_alloc_old _ _ (by simp)];exact heap_alloc_new w _
 have kM:W.heap[w.heap.size+1]?=some (.cells #[.int .u64 mw.a.toNat,.int .u64 mw.b.toNat,.int .u64 mw.c.toNat] 197):=by rw[<- hW];exact heap_alloc2_new w _ _
 have hgl:=z8 kb;have HAL:Hid ((PA.at_ ⟨⟨#[61]⟩,i,j,b⟩).wd=[61]):=qx8;have hexe:(PA.at_ ⟨⟨#[61]⟩,i,j,b⟩).ex=b:=if_neg qP0;have HEX:=q8 (zc8 (w:=W.drew) ⟨⟨#[61]⟩,i,j,b⟩ hx);have KB:=q8 kb;have HT:=q8 hT;have HI:=q8 hI;have HXW:=q8 hxW;have HWE:=q8 hW;have KM:=q8 kM;have a0:=z6 kA 0;have a1:=z6 kA 1;have a2:=z6 kA 2;have a3:=z6 kA 3;have KA:=q8 kA;have HEXE:Hid ((PA.at_ ⟨⟨#[61]⟩,i,j,b⟩).ex=b):=hexe;simp only at HEX;rw[hexe] at HEX;clear kb hT hI hxW hW kM kA hexe hx;go_enter func260,ntmps260;go_wp2_with fail;rw[HWE.out]
 go_region_law (go_simp;go_wp2_with (go_at_call 266;refine HEX.out.mono ?_;rintro e w3 ⟨rfl,hx3⟩;have HX3:=q8 hx3;have k3:=(hx3.block _ (z8 KA.out) (fun f=>f)).trans KA.out;have b0:=z6 k3 0;have b1:=z6 k3 1;have b2:=z6 k3 2;have b3:=z6 k3 3;clear hx3 k3))
 all_goals
  have hxw3:q9 (fun _=>False) w w3:=HXW.out.trans (((q9.refl _ W).drew).trans HX3.out);have HX:=q8 hxw3;have kM3:=((((q9.refl (fun _=>False) W).drew).trans HX3.out).block _ (z8 KM.out) (fun f=>f)).trans KM.out;have m0:=z6 kM3 0;have m1:=z6 kM3 1;have m2:=z6 kM3 2;clear hxw3 kM3 HEX a0 a1 a2 a3;go_wp2_with fail;go_ret;exact⟨X,true,rfl,⟨HX.out.mono (fun _ _ f=>f.elim),C,(HX.out.block _ hgl (fun f=>f)).trans KB.out,HT.out,X9.refl _ _⟩,TPost.refl HI.out,fun _=>qp2 HAL.out⟩
theorem jn2{i j:Nat}{b:Int}(kb:w.heap[g]?=some (.cells C 203))(hT:J9 C o n X)(hn:n<=13)(hi:i<n)(hj:j<n)(hI:V9 n far V H K X.t)(hfar:far<=1000000)(hmk:J8 K mw)(hx:(PA.at_ ⟨⟨#[60]⟩,i,j,b⟩).Ok)(_hb:-1000<=b/\b<=1000)(hs:∀ v,V v->Hs H mw v->(PA.at_ ⟨⟨#[60]⟩,i,j,b⟩).tr v=true):
  Calls prog 260 #[.pointer (some ⟨g,o,none⟩),.agg #[.string ⟨#[60]⟩,.int .i64 i,.int .i64 j,.int .i64 b],.bool true,.agg #[.int .u64 mw.a.toNat,.int .u64 mw.b.toNat,.int .u64 mw.c.toNat]] w (TC w g o n C far V H K X (fun Y=>U7 Y.t (PA.at_ ⟨⟨#[60]⟩,i,j,b⟩,true))):=by
 obtain⟨W,hW⟩:∃ W,(w.alloc (.cells #[.string ⟨#[60]⟩,.int .i64 i,.int .i64 j,.int .i64 b] 153)).alloc (.cells #[.int .u64 mw.a.toNat,.int .u64 mw.b.toNat,.int .u64 mw.c.toNat] 197)=W:=⟨_,rfl⟩;have hxW:q9 (fun _=>False) w W:=by rw[<- hW];exact((q9.refl _ w).alloc _).alloc _
 have kA:W.heap[w.heap.size]?=some (.cells #[.string ⟨#[60]⟩,.int .i64 i,.int .i64 j,.int .i64 b] 153):=by rw[<- hW,heap_alloc_old _ _ (by simp)];exact heap_alloc_new w _
 have kM:W.heap[w.heap.size+1]?=some (.cells #[.int .u64 mw.a.toNat,.int .u64 mw.b.toNat,.int .u64 mw.c.toNat] 197):=by rw[<- hW];exact heap_alloc2_new w _ _
 have hgl:=z8 kb;have HAL:Hid ((PA.at_ ⟨⟨#[60]⟩,i,j,b⟩).wd≠[61]):=qx9;have hexe:(PA.at_ ⟨⟨#[60]⟩,i,j,b⟩).ex=(-1):=if_pos qf9;have HEX:=q8 (zc8 (w:=W.drew) ⟨⟨#[60]⟩,i,j,b⟩ hx);have HC:Hid (∀ W',q9 (fun _=>False) w W'->Calls prog 99 #[.pointer (some ⟨g,o,none⟩),.int .i64 i,.int .i64 j,.agg #[.int .i64 (-1),.int .u64 mw.a.toNat,.int .u64 mw.b.toNat,.int .u64 mw.c.toNat]] W' (TC W' g o n C far V H K X (fun Y=>Y.t.by_ i j<=(-1)/\(X.t.by_ i j<=(-1)\/Y.news=true)))) :=
  fun W' hx'=>za5 ((hx'.block _ hgl (fun f=>f)).trans kb) hT hn hi hj hI hfar (by omega) hmk (fun v hv hh=>by have:=zE9 hx HAL.out (hs v hv hh);rw[hexe] at this;exact this)
 have KB:=q8 kb;have HT:=q8 hT;have HI:=q8 hI;have HXW:=q8 hxW;have HWE:=q8 hW;have KM:=q8 kM;have a0:=z6 kA 0;have a1:=z6 kA 1;have a2:=z6 kA 2;have a3:=z6 kA 3;have KA:=q8 kA;have HEXE:Hid ((PA.at_ ⟨⟨#[60]⟩,i,j,b⟩).ex=(-1)):=hexe;simp only at HEX;rw[hexe] at HEX;clear kb hT hI hs hxW hW kM kA hexe hx;go_enter func260,ntmps260;go_wp2_with fail;rw[HWE.out]
 go_region_law (go_simp;go_wp2_with (go_at_call 266;refine HEX.out.mono ?_;rintro e w3 ⟨rfl,hx3⟩;have HX3:=q8 hx3;have k3:=(hx3.block _ (z8 KA.out) (fun f=>f)).trans KA.out;have b0:=z6 k3 0;have b1:=z6 k3 1;have b2:=z6 k3 2;have b3:=z6 k3 3;clear hx3 k3))
 all_goals
  have hxw3:q9 (fun _=>False) w w3:=HXW.out.trans (((q9.refl _ W).drew).trans HX3.out);have HX:=q8 hxw3;have kM3:=((((q9.refl (fun _=>False) W).drew).trans HX3.out).block _ (z8 KM.out) (fun f=>f)).trans KM.out;have m0:=z6 kM3 0;have m1:=z6 kM3 1;have m2:=z6 kM3 2;clear hxw3 kM3 HEX a0 a1 a2 a3;go_wp2_with fail;refine(HC.out w3 HX.out).mono ?_;rintro e w4 ⟨Y,ok,rfl,h2,h3,h4⟩;have HF:Hid (TC w g o n C far V H K X (fun Y=>U7 Y.t (PA.at_ ⟨⟨#[60]⟩,i,j,b⟩,true)) (.returned (.bool ok)) w4):=TC.more HX.out ⟨Y,ok,rfl,h2,h3,fun e=>zx0 HAL.out (by rw[HEXE.out];exact(h4 e).1)⟩;clear h2 h3 h4;go_wp2_with fail;go_ret;exact HF.out
theorem jn3{i j:Nat}{b:Int}(kb:w.heap[g]?=some (.cells C 203))(hT:J9 C o n X)(hn:n<=13)(hi:i<n)(hj:j<n)(hI:V9 n far V H K X.t)(hfar:far<=1000000)(hmk:J8 K mw)(hx:(PA.at_ ⟨⟨#[60]⟩,i,j,b⟩).Ok)(_hb:-1000<=b/\b<=1000)(hs:∀ v,V v->Hs H mw v->(PA.at_ ⟨⟨#[60]⟩,i,j,b⟩).tr v=false):
  Calls prog 260 #[.pointer (some ⟨g,o,none⟩),.agg #[.string ⟨#[60]⟩,.int .i64 i,.int .i64 j,.int .i64 b],.bool false,.agg #[.int .u64 mw.a.toNat,.int .u64 mw.b.toNat,.int .u64 mw.c.toNat]] w (TC w g o n C far V H K X (fun Y=>U7 Y.t (PA.at_ ⟨⟨#[60]⟩,i,j,b⟩,false))):=by
 obtain⟨W,hW⟩:∃ W,(w.alloc (.cells #[.string ⟨#[60]⟩,.int .i64 i,.int .i64 j,.int .i64 b] 153)).alloc (.cells #[.int .u64 mw.a.toNat,.int .u64 mw.b.toNat,.int .u64 mw.c.toNat] 197)=W:=⟨_,rfl⟩;have hxW:q9 (fun _=>False) w W:=by rw[<- hW];exact((q9.refl _ w).alloc _).alloc _
 have kA:W.heap[w.heap.size]?=some (.cells #[.string ⟨#[60]⟩,.int .i64 i,.int .i64 j,.int .i64 b] 153):=by rw[<- hW,heap_alloc_old _ _ (by simp)];exact heap_alloc_new w _
 have kM:W.heap[w.heap.size+1]?=some (.cells #[.int .u64 mw.a.toNat,.int .u64 mw.b.toNat,.int .u64 mw.c.toNat] 197):=by rw[<- hW];exact heap_alloc2_new w _ _
 have hgl:=z8 kb;have HAL:Hid ((PA.at_ ⟨⟨#[60]⟩,i,j,b⟩).wd≠[61]):=qx9;have hexe:(PA.at_ ⟨⟨#[60]⟩,i,j,b⟩).ex=(-1):=if_pos qf9;have HEX:=q8 (zc8 (w:=W.drew) ⟨⟨#[60]⟩,i,j,b⟩ hx);have HC:Hid (∀ W',q9 (fun _=>False) w W'->Calls prog 99 #[.pointer (some ⟨g,o,none⟩),.int .i64 j,.int .i64 i,.agg #[.int .i64 (-(-1)-1),.int .u64 mw.a.toNat,.int .u64 mw.b.toNat,.int .u64 mw.c.toNat]] W' (TC W' g o n C far V H K X (fun Y=>Y.t.by_ j i<=(-(-1)-1)/\(X.t.by_ j i<=(-(-1)-1)\/Y.news=true)))) :=
  fun W' hx'=>za5 ((hx'.block _ hgl (fun f=>f)).trans kb) hT hn hj hi hI hfar (by omega) hmk (fun v hv hh=>by have:=zP7 hx HAL.out (hs v hv hh);rw[hexe] at this;exact this)
 have KB:=q8 kb;have HT:=q8 hT;have HI:=q8 hI;have HXW:=q8 hxW;have HWE:=q8 hW;have KM:=q8 kM;have a0:=z6 kA 0;have a1:=z6 kA 1;have a2:=z6 kA 2;have a3:=z6 kA 3;have KA:=q8 kA;have HEXE:Hid ((PA.at_ ⟨⟨#[60]⟩,i,j,b⟩).ex=(-1)):=hexe;simp only at HEX;rw[hexe] at HEX;clear kb hT hI hs hxW hW kM kA hexe hx;go_enter func260,ntmps260;go_wp2_with fail;rw[HWE.out]
 go_region_law (go_simp;go_wp2_with (go_at_call 266;refine HEX.out.mono ?_;rintro e w3 ⟨rfl,hx3⟩;have HX3:=q8 hx3;have k3:=(hx3.block _ (z8 KA.out) (fun f=>f)).trans KA.out;have b0:=z6 k3 0;have b1:=z6 k3 1;have b2:=z6 k3 2;have b3:=z6 k3 3;clear hx3 k3))
 all_goals
  have hxw3:q9 (fun _=>False) w w3:=HXW.out.trans (((q9.refl _ W).drew).trans HX3.out);have HX:=q8 hxw3;have kM3:=((((q9.refl (fun _=>False) W).drew).trans HX3.out).block _ (z8 KM.out) (fun f=>f)).trans KM.out;have m0:=z6 kM3 0;have m1:=z6 kM3 1;have m2:=z6 kM3 2;clear hxw3 kM3 HEX a0 a1 a2 a3;go_wp2_with fail;refine(HC.out w3 HX.out).mono ?_;rintro e w4 ⟨Y,ok,rfl,h2,h3,h4⟩;have HF:Hid (TC w g o n C far V H K X (fun Y=>U7 Y.t (PA.at_ ⟨⟨#[60]⟩,i,j,b⟩,false)) (.returned (.bool ok)) w4):=TC.more HX.out ⟨Y,ok,rfl,h2,h3,fun e=>zx1 HAL.out (by rw[HEXE.out];exact(h4 e).1)⟩;clear h2 h3 h4;go_wp2_with fail;go_ret;exact HF.out
theorem jn4{i j:Nat}{b:Int}(kb:w.heap[g]?=some (.cells C 203))(hT:J9 C o n X)(hn:n<=13)(hi:i<n)(hj:j<n)(hI:V9 n far V H K X.t)(hfar:far<=1000000)(hmk:J8 K mw)(hx:(PA.at_ ⟨⟨#[60,61]⟩,i,j,b⟩).Ok)(hb:-1000<=b/\b<=1000)(hs:∀ v,V v->Hs H mw v->(PA.at_ ⟨⟨#[60,61]⟩,i,j,b⟩).tr v=true):
  Calls prog 260 #[.pointer (some ⟨g,o,none⟩),.agg #[.string ⟨#[60,61]⟩,.int .i64 i,.int .i64 j,.int .i64 b],.bool true,.agg #[.int .u64 mw.a.toNat,.int .u64 mw.b.toNat,.int .u64 mw.c.toNat]] w (TC w g o n C far V H K X (fun Y=>U7 Y.t (PA.at_ ⟨⟨#[60,61]⟩,i,j,b⟩,true))):=by
 obtain⟨W,hW⟩:∃ W,(w.alloc (.cells #[.string ⟨#[60,61]⟩,.int .i64 i,.int .i64 j,.int .i64 b] 153)).alloc (.cells #[.int .u64 mw.a.toNat,.int .u64 mw.b.toNat,.int .u64 mw.c.toNat] 197)=W:=⟨_,rfl⟩;have hxW:q9 (fun _=>False) w W:=by rw[<- hW];exact((q9.refl _ w).alloc _).alloc _
 have kA:W.heap[w.heap.size]?=some (.cells #[.string ⟨#[60,61]⟩,.int .i64 i,.int .i64 j,.int .i64 b] 153):=by rw[<- hW,heap_alloc_old _ _ (by simp)];exact heap_alloc_new w _
 have kM:W.heap[w.heap.size+1]?=some (.cells #[.int .u64 mw.a.toNat,.int .u64 mw.b.toNat,.int .u64 mw.c.toNat] 197):=by rw[<- hW];exact heap_alloc2_new w _ _
 have hgl:=z8 kb;have HAL:Hid ((PA.at_ ⟨⟨#[60,61]⟩,i,j,b⟩).wd≠[61]):=qy0;have hexe:(PA.at_ ⟨⟨#[60,61]⟩,i,j,b⟩).ex=b:=if_neg qx6;have HEX:=q8 (zc8 (w:=W.drew) ⟨⟨#[60,61]⟩,i,j,b⟩ hx);have HC:Hid (∀ W',q9 (fun _=>False) w W'->Calls prog 99 #[.pointer (some ⟨g,o,none⟩),.int .i64 i,.int .i64 j,.agg #[.int .i64 b,.int .u64 mw.a.toNat,.int .u64 mw.b.toNat,.int .u64 mw.c.toNat]] W' (TC W' g o n C far V H K X (fun Y=>Y.t.by_ i j<=b/\(X.t.by_ i j<=b\/Y.news=true)))) :=
  fun W' hx'=>za5 ((hx'.block _ hgl (fun f=>f)).trans kb) hT hn hi hj hI hfar (by omega) hmk (fun v hv hh=>by have:=zE9 hx HAL.out (hs v hv hh);rw[hexe] at this;exact this)
 have KB:=q8 kb;have HT:=q8 hT;have HI:=q8 hI;have HXW:=q8 hxW;have HWE:=q8 hW;have KM:=q8 kM;have a0:=z6 kA 0;have a1:=z6 kA 1;have a2:=z6 kA 2;have a3:=z6 kA 3;have KA:=q8 kA;have HEXE:Hid ((PA.at_ ⟨⟨#[60,61]⟩,i,j,b⟩).ex=b):=hexe;simp only at HEX;rw[hexe] at HEX;clear kb hT hI hs hxW hW kM kA hexe hx;go_enter func260,ntmps260;go_wp2_with fail;rw[HWE.out]
 go_region_law (go_simp;go_wp2_with (go_at_call 266;refine HEX.out.mono ?_;rintro e w3 ⟨rfl,hx3⟩;have HX3:=q8 hx3;have k3:=(hx3.block _ (z8 KA.out) (fun f=>f)).trans KA.out;have b0:=z6 k3 0;have b1:=z6 k3 1;have b2:=z6 k3 2;have b3:=z6 k3 3;clear hx3 k3))
 all_goals
  have hxw3:q9 (fun _=>False) w w3:=HXW.out.trans (((q9.refl _ W).drew).trans HX3.out);have HX:=q8 hxw3;have kM3:=((((q9.refl (fun _=>False) W).drew).trans HX3.out).block _ (z8 KM.out) (fun f=>f)).trans KM.out;have m0:=z6 kM3 0;have m1:=z6 kM3 1;have m2:=z6 kM3 2;clear hxw3 kM3 HEX a0 a1 a2 a3;go_wp2_with fail;refine(HC.out w3 HX.out).mono ?_;rintro e w4 ⟨Y,ok,rfl,h2,h3,h4⟩;have HF:Hid (TC w g o n C far V H K X (fun Y=>U7 Y.t (PA.at_ ⟨⟨#[60,61]⟩,i,j,b⟩,true)) (.returned (.bool ok)) w4):=TC.more HX.out ⟨Y,ok,rfl,h2,h3,fun e=>zx0 HAL.out (by rw[HEXE.out];exact(h4 e).1)⟩;clear h2 h3 h4;go_wp2_with fail;go_ret;exact HF.out
theorem jn5{i j:Nat}{b:Int}(kb:w.heap[g]?=some (.cells C 203))(hT:J9 C o n X)(hn:n<=13)(hi:i<n)(hj:j<n)(hI:V9 n far V H K X.t)(hfar:far<=1000000)(hmk:J8 K mw)(hx:(PA.at_ ⟨⟨#[60,61]⟩,i,j,b⟩).Ok)(hb:-1000<=b/\b<=1000)(hs:∀ v,V v->Hs H mw v->(PA.at_ ⟨⟨#[60,61]⟩,i,j,b⟩).tr v=false):
  Calls prog 260 #[.pointer (some ⟨g,o,none⟩),.agg #[.string ⟨#[60,61]⟩,.int .i64 i,.int .i64 j,.int .i64 b],.bool false,.agg #[.int .u64 mw.a.toNat,.int .u64 mw.b.toNat,.int .u64 mw.c.toNat]] w (TC w g o n C far V H K X (fun Y=>U7 Y.t (PA.at_ ⟨⟨#[60,61]⟩,i,j,b⟩,false))):=by
 obtain⟨W,hW⟩:∃ W,(w.alloc (.cells #[.string ⟨#[60,61]⟩,.int .i64 i,.int .i64 j,.int .i64 b] 153)).alloc (.cells #[.int .u64 mw.a.toNat,.int .u64 mw.b.toNat,.int .u64 mw.c.toNat] 197)=W:=⟨_,rfl⟩;have hxW:q9 (fun _=>False) w W:=by rw[<- hW];exact((q9.refl _ w).alloc _).alloc _
 have kA:W.heap[w.heap.size]?=some (.cells #[.string ⟨#[60,61]⟩,.int .i64 i,.int .i64 j,.int .i64 b] 153):=by rw[<- hW,heap_alloc_old _ _ (by simp)];exact heap_alloc_new w _
 have kM:W.heap[w.heap.size+1]?=some (.cells #[.int .u64 mw.a.toNat,.int .u64 mw.b.toNat,.int .u64 mw.c.toNat] 197):=by rw[<- hW];exact heap_alloc2_new w _ _
 have hgl:=z8 kb;have HAL:Hid ((PA.at_ ⟨⟨#[60,61]⟩,i,j,b⟩).wd≠[61]):=qy0;have hexe:(PA.at_ ⟨⟨#[60,61]⟩,i,j,b⟩).ex=b:=if_neg qx6;have HEX:=q8 (zc8 (w:=W.drew) ⟨⟨#[60,61]⟩,i,j,b⟩ hx);have HC:Hid (∀ W',q9 (fun _=>False) w W'->Calls prog 99 #[.pointer (some ⟨g,o,none⟩),.int .i64 j,.int .i64 i,.agg #[.int .i64 (-b-1),.int .u64 mw.a.toNat,.int .u64 mw.b.toNat,.int .u64 mw.c.toNat]] W' (TC W' g o n C far V H K X (fun Y=>Y.t.by_ j i<=(-b-1)/\(X.t.by_ j i<=(-b-1)\/Y.news=true)))) :=
  fun W' hx'=>za5 ((hx'.block _ hgl (fun f=>f)).trans kb) hT hn hj hi hI hfar (by omega) hmk (fun v hv hh=>by have:=zP7 hx HAL.out (hs v hv hh);rw[hexe] at this;exact this)
 have KB:=q8 kb;have HT:=q8 hT;have HI:=q8 hI;have HXW:=q8 hxW;have HWE:=q8 hW;have KM:=q8 kM;have a0:=z6 kA 0;have a1:=z6 kA 1;have a2:=z6 kA 2;have a3:=z6 kA 3;have KA:=q8 kA;have HEXE:Hid ((PA.at_ ⟨⟨#[60,61]⟩,i,j,b⟩).ex=b):=hexe;simp only at HEX;rw[hexe] at HEX;clear kb hT hI hs hxW hW kM kA hexe hx;go_enter func260,ntmps260;go_wp2_with fail;rw[HWE.out]
 go_region_law (go_simp;go_wp2_with (go_at_call 266;refine HEX.out.mono ?_;rintro e w3 ⟨rfl,hx3⟩;have HX3:=q8 hx3;have k3:=(hx3.block _ (z8 KA.out) (fun f=>f)).trans KA.out;have b0:=z6 k3 0;have b1:=z6 k3 1;have b2:=z6 k3 2;have b3:=z6 k3 3;clear hx3 k3))
 all_goals
  have hxw3:q9 (fun _=>False) w w3:=HXW.out.trans (((q9.refl _ W).drew).trans HX3.out);have HX:=q8 hxw3;have kM3:=((((q9.refl (fun _=>False) W).drew).trans HX3.out).block _ (z8 KM.out) (fun f=>f)).trans KM.out;have m0:=z6 kM3 0;have m1:=z6 kM3 1;have m2:=z6 kM3 2;clear hxw3 kM3 HEX a0 a1 a2 a3;go_wp2_with fail;refine(HC.out w3 HX.out).mono ?_;rintro e w4 ⟨Y,ok,rfl,h2,h3,h4⟩;have HF:Hid (TC w g o n C far V H K X (fun Y=>U7 Y.t (PA.at_ ⟨⟨#[60,61]⟩,i,j,b⟩,false)) (.returned (.bool ok)) w4):=TC.more HX.out ⟨Y,ok,rfl,h2,h3,fun e=>zx1 HAL.out (by rw[HEXE.out];exact(h4 e).1)⟩;clear h2 h3 h4;go_wp2_with fail;go_ret;exact HF.out
theorem jn6{i j:Nat}{b:Int}(kb:w.heap[g]?=some (.cells C 203))(hT:J9 C o n X)(hn:n<=13)(hi:i<n)(hj:j<n)(hI:V9 n far V H K X.t)(hfar:far<=1000000)(hmk:J8 K mw)(hx:(PA.at_ ⟨⟨#[108,101]⟩,i,j,b⟩).Ok)(hb:-1000<=b/\b<=1000)(hs:∀ v,V v->Hs H mw v->(PA.at_ ⟨⟨#[108,101]⟩,i,j,b⟩).tr v=true):
  Calls prog 260 #[.pointer (some ⟨g,o,none⟩),.agg #[.string ⟨#[108,101]⟩,.int .i64 i,.int .i64 j,.int .i64 b],.bool true,.agg #[.int .u64 mw.a.toNat,.int .u64 mw.b.toNat,.int .u64 mw.c.toNat]] w (TC w g o n C far V H K X (fun Y=>U7 Y.t (PA.at_ ⟨⟨#[108,101]⟩,i,j,b⟩,true))):=by
 obtain⟨W,hW⟩:∃ W,(w.alloc (.cells #[.string ⟨#[108,101]⟩,.int .i64 i,.int .i64 j,.int .i64 b] 153)).alloc (.cells #[.int .u64 mw.a.toNat,.int .u64 mw.b.toNat,.int .u64 mw.c.toNat] 197)=W:=⟨_,rfl⟩;have hxW:q9 (fun _=>False) w W:=by rw[<- hW];exact((q9.refl _ w).alloc _).alloc _
 have kA:W.heap[w.heap.size]?=some (.cells #[.string ⟨#[108,101]⟩,.int .i64 i,.int .i64 j,.int .i64 b] 153):=by rw[<- hW,heap_alloc_old _ _ (by simp)];exact heap_alloc_new w _
 have kM:W.heap[w.heap.size+1]?=some (.cells #[.int .u64 mw.a.toNat,.int .u64 mw.b.toNat,.int .u64 mw.c.toNat] 197):=by rw[<- hW];exact heap_alloc2_new w _ _
 have hgl:=z8 kb;have HAL:Hid ((PA.at_ ⟨⟨#[108,101]⟩,i,j,b⟩).wd≠[61]):=qy1;have hexe:(PA.at_ ⟨⟨#[108,101]⟩,i,j,b⟩).ex=b:=if_neg qx7;have HEX:=q8 (zc8 (w:=W.drew) ⟨⟨#[108,101]⟩,i,j,b⟩ hx);have HC:Hid (∀ W',q9 (fun _=>False) w W'->Calls prog 99 #[.pointer (some ⟨g,o,none⟩),.int .i64 i,.int .i64 j,.agg #[.int .i64 b,.int .u64 mw.a.toNat,.int .u64 mw.b.toNat,.int .u64 mw.c.toNat]] W' (TC W' g o n C far V H K X (fun Y=>Y.t.by_ i j<=b/\(X.t.by_ i j<=b\/Y.news=true)))) :=
  fun W' hx'=>za5 ((hx'.block _ hgl (fun f=>f)).trans kb) hT hn hi hj hI hfar (by omega) hmk (fun v hv hh=>by have:=zE9 hx HAL.out (hs v hv hh);rw[hexe] at this;exact this)
 have KB:=q8 kb;have HT:=q8 hT;have HI:=q8 hI;have HXW:=q8 hxW;have HWE:=q8 hW;have KM:=q8 kM;have a0:=z6 kA 0;have a1:=z6 kA 1;have a2:=z6 kA 2;have a3:=z6 kA 3;have KA:=q8 kA;have HEXE:Hid ((PA.at_ ⟨⟨#[108,101]⟩,i,j,b⟩).ex=b):=hexe;simp only at HEX;rw[hexe] at HEX;clear kb hT hI hs hxW hW kM kA hexe hx;go_enter func260,ntmps260;go_wp2_with fail;rw[HWE.out]
 go_region_law (go_simp;go_wp2_with (go_at_call 266;refine HEX.out.mono ?_;rintro e w3 ⟨rfl,hx3⟩;have HX3:=q8 hx3;have k3:=(hx3.block _ (z8 KA.out) (fun f=>f)).trans KA.out;have b0:=z6 k3 0;have b1:=z6 k3 1;have b2:=z6 k3 2;have b3:=z6 k3 3;clear hx3 k3))
 all_goals
  have hxw3:q9 (fun _=>False) w w3:=HXW.out.trans (((q9.refl _ W).drew).trans HX3.out);have HX:=q8 hxw3;have kM3:=((((q9.refl (fun _=>False) W).drew).trans HX3.out).block _ (z8 KM.out) (fun f=>f)).trans KM.out;have m0:=z6 kM3 0;have m1:=z6 kM3 1;have m2:=z6 kM3 2;clear hxw3 kM3 HEX a0 a1 a2 a3;go_wp2_with fail;refine(HC.out w3 HX.out).mono ?_;rintro e w4 ⟨Y,ok,rfl,h2,h3,h4⟩;have HF:Hid (TC w g o n C far V H K X (fun Y=>U7 Y.t (PA.at_ ⟨⟨#[108,101]⟩,i,j,b⟩,true)) (.returned (.bool ok)) w4):=TC.more HX.out ⟨Y,ok,rfl,h2,h3,fun e=>zx0 HAL.out (by rw[HEXE.out];exact(h4 e).1)⟩;clear h2 h3 h4;go_wp2_with fail;go_ret;exact HF.out
theorem jn7{i j:Nat}{b:Int}(kb:w.heap[g]?=some (.cells C 203))(hT:J9 C o n X)(hn:n<=13)(hi:i<n)(hj:j<n)(hI:V9 n far V H K X.t)(hfar:far<=1000000)(hmk:J8 K mw)(hx:(PA.at_ ⟨⟨#[108,101]⟩,i,j,b⟩).Ok)(hb:-1000<=b/\b<=1000)(hs:∀ v,V v->Hs H mw v->(PA.at_ ⟨⟨#[108,101]⟩,i,j,b⟩).tr v=false):
  Calls prog 260 #[.pointer (some ⟨g,o,none⟩),.agg #[.string ⟨#[108,101]⟩,.int .i64 i,.int .i64 j,.int .i64 b],.bool false,.agg #[.int .u64 mw.a.toNat,.int .u64 mw.b.toNat,.int .u64 mw.c.toNat]] w (TC w g o n C far V H K X (fun Y=>U7 Y.t (PA.at_ ⟨⟨#[108,101]⟩,i,j,b⟩,false))):=by
 obtain⟨W,hW⟩:∃ W,(w.alloc (.cells #[.string ⟨#[108,101]⟩,.int .i64 i,.int .i64 j,.int .i64 b] 153)).alloc (.cells #[.int .u64 mw.a.toNat,.int .u64 mw.b.toNat,.int .u64 mw.c.toNat] 197)=W:=⟨_,rfl⟩;have hxW:q9 (fun _=>False) w W:=by rw[<- hW];exact((q9.refl _ w).alloc _).alloc _
 have kA:W.heap[w.heap.size]?=some (.cells #[.string ⟨#[108,101]⟩,.int .i64 i,.int .i64 j,.int .i64 b] 153):=by rw[<- hW,heap_alloc_old _ _ (by simp)];exact heap_alloc_new w _
 have kM:W.heap[w.heap.size+1]?=some (.cells #[.int .u64 mw.a.toNat,.int .u64 mw.b.toNat,.int .u64 mw.c.toNat] 197):=by rw[<- hW];exact heap_alloc2_new w _ _
 have hgl:=z8 kb;have HAL:Hid ((PA.at_ ⟨⟨#[108,101]⟩,i,j,b⟩).wd≠[61]):=qy1;have hexe:(PA.at_ ⟨⟨#[108,101]⟩,i,j,b⟩).ex=b:=if_neg qx7;have HEX:=q8 (zc8 (w:=W.drew) ⟨⟨#[108,101]⟩,i,j,b⟩ hx);have HC:Hid (∀ W',q9 (fun _=>False) w W'->Calls prog 99 #[.pointer (some ⟨g,o,none⟩),.int .i64 j,.int .i64 i,.agg #[.int .i64 (-b-1),.int .u64 mw.a.toNat,.int .u64 mw.b.toNat,.int .u64 mw.c.toNat]] W' (TC W' g o n C far V H K X (fun Y=>Y.t.by_ j i<=(-b-1)/\(X.t.by_ j i<=(-b-1)\/Y.news=true)))) :=
  fun W' hx'=>za5 ((hx'.block _ hgl (fun f=>f)).trans kb) hT hn hj hi hI hfar (by omega) hmk (fun v hv hh=>by have:=zP7 hx HAL.out (hs v hv hh);rw[hexe] at this;exact this)
 have KB:=q8 kb;have HT:=q8 hT;have HI:=q8 hI;have HXW:=q8 hxW;have HWE:=q8 hW;have KM:=q8 kM;have a0:=z6 kA 0;have a1:=z6 kA 1;have a2:=z6 kA 2;have a3:=z6 kA 3;have KA:=q8 kA;have HEXE:Hid ((PA.at_ ⟨⟨#[108,101]⟩,i,j,b⟩).ex=b):=hexe;simp only at HEX;rw[hexe] at HEX;clear kb hT hI hs hxW hW kM kA hexe hx;go_enter func260,ntmps260;go_wp2_with fail;rw[HWE.out]
 go_region_law (go_simp;go_wp2_with (go_at_call 266;refine HEX.out.mono ?_;rintro e w3 ⟨rfl,hx3⟩;have HX3:=q8 hx3;have k3:=(hx3.block _ (z8 KA.out) (fun f=>f)).trans KA.out;have b0:=z6 k3 0;have b1:=z6 k3 1;have b2:=z6 k3 2;have b3:=z6 k3 3;clear hx3 k3))
 all_goals
  have hxw3:q9 (fun _=>False) w w3:=HXW.out.trans (((q9.refl _ W).drew).trans HX3.out);have HX:=q8 hxw3;have kM3:=((((q9.refl (fun _=>False) W).drew).trans HX3.out).block _ (z8 KM.out) (fun f=>f)).trans KM.out;have m0:=z6 kM3 0;have m1:=z6 kM3 1;have m2:=z6 kM3 2;clear hxw3 kM3 HEX a0 a1 a2 a3;go_wp2_with fail;refine(HC.out w3 HX.out).mono ?_;rintro e w4 ⟨Y,ok,rfl,h2,h3,h4⟩;have HF:Hid (TC w g o n C far V H K X (fun Y=>U7 Y.t (PA.at_ ⟨⟨#[108,101]⟩,i,j,b⟩,false)) (.returned (.bool ok)) w4):=TC.more HX.out ⟨Y,ok,rfl,h2,h3,fun e=>zx1 HAL.out (by rw[HEXE.out];exact(h4 e).1)⟩;clear h2 h3 h4;go_wp2_with fail;go_ret;exact HF.out
theorem qO9{x:PA}{yes:Bool}(kb:w.heap[g]?=some (.cells C 203))(hT:J9 C o n X)(hn:n<=13)(hi:x.i<n)(hj:x.j<n)(hI:V9 n far V H K X.t)(hfar:far<=1000000)(hmk:J8 K mw)(hx:x.at_.Ok)(hb:-1000<=x.b/\x.b<=1000)(hs:∀ v,V v->Hs H mw v->x.at_.tr v=yes):
  Calls prog 260 #[.pointer (some ⟨g,o,none⟩),.agg #[.string x.wd,.int .i64 x.i,.int .i64 x.j,.int .i64 x.b],.bool yes,.agg #[.int .u64 mw.a.toNat,.int .u64 mw.b.toNat,.int .u64 mw.c.toNat]] w (TC w g o n C far V H K X (fun Y=>U7 Y.t (x.at_,yes))):=by
 have hw:=PA.words hx;obtain⟨wd,i,j,b⟩:=x;simp only at hw;rcases hw with rfl|rfl|rfl|rfl<;>cases yes
 ·exact jn1 kb hT hn hi hj hI hfar hmk hx hb hs
 ·exact jn0 kb hT hn hi hj hI hfar hmk hx hb hs
 ·exact jn3 kb hT hn hi hj hI hfar hmk hx hb hs
 ·exact jn2 kb hT hn hi hj hI hfar hmk hx hb hs
 ·exact jn5 kb hT hn hi hj hI hfar hmk hx hb hs
 ·exact jn4 kb hT hn hi hj hI hfar hmk hx hb hs
 ·exact jn7 kb hT hn hi hj hI hfar hmk hx hb hs
 ·exact jn6 kb hT hn hi hj hI hfar hmk hx hb hs
end
end
end Go.Proofs.YtegbdaffhpiacaaGreatDoor
