/- A part of the proof. -/
import Derived.Test.YtegbdaffhpiacaaGreatDoorMod19
import Derived.Laws.AppendOwnNone
import Derived.Laws.MakeOwn
import Derived.Lib.SliceRun
set_option maxRecDepth 10000
set_option maxHeartbeats 400000
namespace Go.Proofs.YtegbdaffhpiacaaGreatDoor
open Tryz
open Go.RowKit Ar
structure WS(w:World)(b:Nat)(v:Value)(l:List (BitVec 64)):Prop where
 own:w.ownsRow 0 195 1 v l.length (l.map u64)
 ne:l≠[]
 blk:v.ownBlock=some b
theorem WS.pos{w:World}{b:Nat}{v:Value}{l:List (BitVec 64)}(h:WS w b v l):0<l.length:=List.length_pos_iff.2 h.ne
theorem WS.shape{w:World}{b:Nat}{v:Value}{l:List (BitVec 64)}(h:WS w b v l):∃ cap cur,v=.slice (some ⟨b,0,none⟩) l.length cap/\l.length<=cap/\w.heap[b]?=some (.cells cur 195):=by
 have hp:=h.pos;rcases h.own.2 with⟨_,e⟩|⟨g,cap,cur,hv,_,hh,hc,_⟩
 ·omega
 ·have hb:=h.blk;rw[hv] at hb;simp[Value.ownBlock] at hb;subst hb;exact⟨cap,cur,hv,hc,hh⟩
theorem WS.lt{w:World}{b:Nat}{v:Value}{l:List (BitVec 64)}(h:WS w b v l):b<w.heap.size:=(h.own.lt b h.blk).2
theorem WS.ext{S:Nat->Prop}{w w':World}{b:Nat}{v:Value}{l:List (BitVec 64)}(h:WS w b v l)(hx:q9 S w w')(hS:¬S b):WS w' b v l :=
 ⟨z7 h.own hx (fun k hk=>by rw[h.blk] at hk;simp at hk;rw[<- hk];exact hS),h.ne,h.blk⟩
theorem WS.cell{w:World}{b:Nat}{v:Value}{l:List (BitVec 64)}(h:WS w b v l){i:Nat}{x:BitVec 64}(hx:l[i]?=some x):w.cell? ⟨b,i,none⟩=some (u64 x):=by obtain⟨cap,cur,hv,_,_⟩:=h.shape;have hi:=(List.getElem?_eq_some_iff.1 hx).1;have ho:=h.own;rw[hv] at ho;rw[ho.cellAt i (by omega)];simp[hx]
theorem WS.set{w:World}{b:Nat}{v:Value}{l:List (BitVec 64)}(h:WS w b v l){i:Nat}(hi:i<l.length)(y:BitVec 64):WS (w.setCell ⟨b,i,none⟩ (u64 y)) b v (l.set i y):=by
 obtain⟨cap,cur,hv,hc,hh⟩:=h.shape;refine⟨?_,fun e=>h.ne (by simpa using congrArg List.length e),h.blk⟩;rcases h.own.2 with⟨_,e⟩|⟨g,cap',cur',hv',hb,hh',hc',hm,hsz,htk⟩
 ·omega
 ·rw[hv] at hv';simp at hv';obtain⟨rfl,rfl⟩:=hv';rw[List.length_set,List.map_set];refine⟨by simp,.inr ⟨b,cap,cur'.setIfInBounds i (u64 y),hv,hb,Y4 hh' i _,hc',hm,by simpa using hsz,?_⟩⟩;rw[Array.toList_setIfInBounds,<- htk,List.take_set]
theorem qy4(x:BitVec 64):x.toNat=0↔x=0:=by
 constructor
 ·intro e;apply BitVec.eq_of_toNat_eq;simpa using e
 ·rintro rfl;simp
theorem qg7{a m:Nat}(ha:a<18446744073709551616)(hm:m<18446744073709551616):bits .and .u64 (a:Int) (m:Int)=((a &&& m:Nat):Int):=by have h:=zL1 (BitVec.ofNat 64 a) (BitVec.ofNat 64 m);rw[BitVec.toNat_and,BitVec.toNat_ofNat,BitVec.toNat_ofNat,Nat.mod_eq_of_lt ha,Nat.mod_eq_of_lt hm] at h;exact h
theorem zT4{a:Nat}(ha:a<18446744073709551616):IntKind.u64.wrap (a:Int)=(a:Int):=by have h:=zm8 (BitVec.ofNat 64 a);rw[BitVec.toNat_ofNat,Nat.mod_eq_of_lt ha] at h;exact h
theorem jn8{z:Nat}(hz:z<18446744073709551616):bits .and .i64 (wrap64 (z:Int)) 127=((z%128:Nat):Int):=by
 have h1:BitVec.ofInt 64 (wrap64 (z:Int))=BitVec.ofNat 64 z:=by apply BitVec.eq_of_toNat_eq;unfold wrap64;simp;omega
 show IntKind.i64.wrap ((BitVec.ofInt 64 (wrap64 (z:Int)) &&& BitVec.ofInt 64 127).toNat:Int)=_;rw[h1,BitVec.toNat_and,BitVec.toNat_ofNat,Nat.mod_eq_of_lt hz,show(BitVec.ofInt 64 127).toNat=2^7-1 from rfl,Nat.and_two_pow_sub_one_eq_mod];have:z%2^7<128:=Nat.mod_lt _ (by decide);simp only[IntKind.wrap,IntKind.signed,IntKind.bits];simp;omega
theorem qg8{w:World}(x:BitVec 64):Calls prog 209 #[u64 x] w fun e w'=>∃ n:Nat,e=.returned (.int .i64 n)/\(n=0↔x=0)/\n<=127/\w' = w:=by
 unfold u64;have hx:=x.isLt;obtain⟨hb,hz⟩:=jj0 hx;obtain⟨n,hn⟩:∃ n,n=x.toNat:=⟨_,rfl⟩;rw[<- hn] at hb hz hx;obtain⟨a,ha⟩:∃ a,a=s1 0x5555555555555555 n:=⟨_,rfl⟩;obtain⟨b,hbb⟩:∃ b,b=s2 0x3333333333333333 a:=⟨_,rfl⟩;obtain⟨c,hc⟩:∃ c,c=s3 0x0F0F0F0F0F0F0F0F b:=⟨_,rfl⟩;have hpc:pc3 n=c:=by unfold pc3;rw[<- ha,<- hbb,<- hc]
 rw[hpc] at hb hz;unfold zW8 at hb hz;have l1:a<18446744073709551616:=by rw[ha];unfold s1;have:=Nat.and_le_right (n:=n/2) (m:=0x5555555555555555);have:=Nat.and_le_right (n:=n) (m:=0x5555555555555555);omega
 have l2:b<7378697629483820648:=by rw[hbb];unfold s2;have:=Nat.and_le_right (n:=a/4) (m:=0x3333333333333333);have:=Nat.and_le_right (n:=a) (m:=0x3333333333333333);omega
 have e1:IntKind.u64.wrap (bits .and .u64 ((n:Int)/2) 6148914691236517205+bits .and .u64 (n:Int) 6148914691236517205)=(a:Int):=by
  have h1:=qg7 (a:=n/2) (m:=6148914691236517205) (by omega) (by omega);have h2:=qg7 (a:=n) (m:=6148914691236517205) (by omega) (by omega);have h3:((n/2:Nat):Int)=(n:Int)/2:=by omega
  rw[h3] at h1;rw[show(6148914691236517205:Int)=((6148914691236517205:Nat):Int) from rfl,h1,h2,ha];rw[ha] at l1;exact zT4 l1
 have e2:IntKind.u64.wrap (bits .and .u64 ((a:Int)/4) 3689348814741910323+bits .and .u64 (a:Int) 3689348814741910323)=(b:Int):=by
  have h1:=qg7 (a:=a/4) (m:=3689348814741910323) (by omega) (by omega);have h2:=qg7 (a:=a) (m:=3689348814741910323) (by omega) (by omega);have h3:((a/4:Nat):Int)=(a:Int)/4:=by omega
  rw[h3] at h1;rw[show(3689348814741910323:Int)=((3689348814741910323:Nat):Int) from rfl,h1,h2,hbb];rw[hbb] at l2;exact zT4 (a:=s2 3689348814741910323 a) (by omega)
 have e3:bits .and .u64 (IntKind.u64.wrap ((b:Int)/16+(b:Int))) 1085102592571150095=(c:Int):=by
  have h1:=zT4 (a:=b/16+b) (by omega);have h2:=qg7 (a:=b/16+b) (m:=1085102592571150095) (by omega) (by omega);have h3:((b/16+b:Nat):Int)=(b:Int)/16+(b:Int):=by omega
  rw[h3] at h1 h2;rw[h1,show(1085102592571150095:Int)=((1085102592571150095:Nat):Int) from rfl,h2,hc]
  rfl
 have e4:IntKind.u64.wrap ((c:Int)+(c:Int)/256)=((c+c/256:Nat):Int):=by rw[<- zT4 (a:=c+c/256) (by omega)];congr 1
 obtain⟨d,hd⟩:∃ d,d=c+c/256:=⟨_,rfl⟩;rw[<- hd] at e4 hb hz;have e5:IntKind.u64.wrap ((d:Int)+(d:Int)/65536)=((d+d/65536:Nat):Int):=by rw[<- zT4 (a:=d+d/65536) (by omega)];congr 1
 obtain⟨f,hf⟩:∃ f,f=d+d/65536:=⟨_,rfl⟩;rw[<- hf] at e5 hb hz;have e6:IntKind.u64.wrap ((f:Int)+(f:Int)/4294967296)=((f+f/4294967296:Nat):Int):=by rw[<- zT4 (a:=f+f/4294967296) (by omega)];congr 1
 obtain⟨g,hg⟩:∃ g,g=f+f/4294967296:=⟨_,rfl⟩;rw[<- hg] at e6 hb hz;have e7:bits .and .i64 (wrap64 (g:Int)) 127=((g%128:Nat):Int):=jn8 hb;obtain⟨r,hr⟩:∃ r,r=g%128:=⟨_,rfl⟩;have hr2:r<=127:=by rw[hr];exact Nat.le_of_lt_succ (Nat.mod_lt g (by decide))
 rw[<- hr] at e7 hz;have HZ:Hid (r=0↔x=0):=by show _↔_;rw[hz,hn];exact qy4 x
 rw[<- hn];clear hr hz hb hg hf hd hpc hc hbb ha hn hx l1 l2;go_enter func209,ntmps209;go_wp2_with fail;go_ret;exact⟨r,rfl,HZ.out,hr2,rfl⟩
theorem qy5:(prog.info? 195).map (fun i=>(i.zero,i.size,i.bytes))=some (some (.int .u64 0),1,8):=by kernel_rfl
theorem qq2(n:Nat):madeCells #[Value.int .u64 0] n=Array.replicate n (Value.int .u64 0):=by
 apply Array.ext
 ·simp[madeCells]
 ·intro i h1 h2;simp[madeCells,Nat.mod_one]
theorem jb0(n:Nat)(h:n<=1024)(w:World):(Instr.makeSlice 136 (.int .i64 (n:Int)) (.int .i64 (n:Int))).run prog w=.ok (.slice (some ⟨w.heap.size,0,none⟩) n n) (w.alloc (.cells (Array.replicate n (.int .u64 0)) 195)):=by
 obtain⟨i0,hi,hz0,hz1,hz2⟩:=info_parts qy5;have:=run_make (P:=prog) w 136 195 i0 _ underlying136 hi hz0 .i64 .i64 (n:Int) (n:Int) (by omega) (Int.le_refl _) (by rw[hz2];omega) (by omega);rw[this,hz1];have e:(n:Int).toNat=n:=by omega
 rw[e,Nat.mul_one];rw[show(Value.int .u64 0).cells=#[Value.int .u64 0] from rfl,qq2]
theorem zy9{w:World}(n:Nat)(hn:n<=16):Calls prog 124 #[.int .i64 n] w fun e w'=>∃ b v,e=.returned v/\w.heap.size<=b/\q9 (fun _=>False) w w'/\WS w' b v (zf3 (2^(n-6))):=by
 have hk:2^(n-6)<=1024:=Nat.pow_le_pow_right (n:=2) (by decide) (by omega:n-6<=10);have hp:0<2^(n-6):=Nat.pos_of_ne_zero (by simp);have hw:wrap64 (2^(max 0 ((n:Int)-6)).toNat)=((2^(n-6):Nat):Int):=by
  rw[show(max 0 ((n:Int)-6)).toNat=n-6 by omega];have:((2:Int)^(n-6))=((2^(n-6):Nat):Int):=by simp
  rw[this];unfold wrap64;omega
 have hm:=jb0 (2^(n-6)) hk w;obtain⟨k,hkk⟩:∃ k,2^(n-6)=k:=⟨_,rfl⟩;rw[hkk] at hw hm hk hp;rw[hkk];clear hkk;go_enter func124,ntmps124;go_wp2_with (fail);go_ret;refine⟨w.heap.size,_,rfl,Nat.le_refl _,(q9.refl _ w).alloc _,?_,?_,rfl⟩
 ·rw[U6];exact⟨by simp[zf3],.inr ⟨w.heap.size,k,_,rfl,Nat.zero_le _,heap_alloc_new w _,Nat.le_refl _,by unfold maxLen;omega,by simp,by simp[zf3,u64]⟩⟩
 ·intro e;have:=congrArg List.length e;rw[U6] at this;simp at this;omega
theorem zx3{w:World}{b:Nat}{v:Value}{l:List (BitVec 64)}(h:WS w b v l)(hl:l.length<=1024):Calls prog 126 #[v] w fun e w'=>∃ b' v',e=.returned v'/\w.heap.size<=b'/\q9 (fun _=>False) w w'/\WS w' b' v' l:=by
 obtain⟨cap,cur,rfl,hcap,kb⟩:=h.shape;have hpos:=h.pos;have H:=q8 h;clear h kb;obtain⟨i0,hi,hz0,hz1,hz2⟩:=info_parts qy5;have hq:=Lib.run_eql_slice_nil (P:=prog) w 136 195 (some ⟨b,0,none⟩) l.length cap 0 0 underlying136;go_enter func126,ntmps126;go_wp2_with (at_builtin;refine wpList_append_own_at _ rfl _ _ 136 rfl 0 195 i0 (.int .u64 0) 1 8 underlying136 hi hz0 hz1 hz2 rfl (by decide) _ 0 [] rfl ?c0 ⟨b,0,none⟩ l.length cap (l.map u64) rfl ?c1 ?c2 ?c3 ?c4 ?c5 (Nat.zero_le _) ?_)
 case c0=>exact World.ownsRow_made w #[] 0 (Nat.zero_le _) (Nat.zero_le _) rfl
 case c1=>simp
 case c2=>
  intro j u hj;obtain⟨x,hx,rfl⟩:∃ x,l[j]?=some x/\u64 x=u:=by simpa using hj
  have h2:=(H.out.ext ((q9.refl (fun _=>False) w).alloc (.cells #[] 195)) (fun f=>f)).cell hx;simp only[Addr.add];split
  ·rename_i h0;subst h0;exact h2
  ·simpa using h2
 case c3=>intro u hu;obtain⟨x,_,rfl⟩:=List.mem_map.1 hu;rfl
 case c4=>unfold maxLen;omega
 case c5=>omega
 intro v' w1 hown hgrow hnil hat;have HO:=q8 hown;have HG:=q8 hgrow;have HA:=q8 hat;clear hown hgrow hnil hat hq hi hz0 hz1 hz2;go_wp2_with fail;go_ret;have hA:v'.ownBlock=some w.heap.size\/v'.ownBlock=some (w.heap.size+1):=HA.out;obtain⟨g,hg,hge⟩:∃ g,v'.ownBlock=some g/\w.heap.size<=g:=by
  rcases hA with e|e
  ·exact⟨_,e,Nat.le_refl _⟩
  ·exact⟨_,e,Nat.le_succ _⟩
 refine⟨g,v',rfl,hge,?_,by simpa using HO.out,fun e=>by rw[e] at hpos;simp at hpos,hg⟩;exact((q9.refl (fun _=>False) w).alloc _).grown HG.out (fun k e hk=>by have h1:w.heap.size=k:=Option.some.inj e;omega)
theorem qP8(x y:BitVec 64):bits .xor .u64 (x.toNat:Int) (y.toNat:Int)=((x ^^^ y).toNat:Int):=by show IntKind.wrap .u64 ((BitVec.ofInt 64 (x.toNat:Int) ^^^ BitVec.ofInt 64 (y.toNat:Int)).toNat:Int)=_;rw[za9,za9,zm8]
theorem qP9(x:BitVec 64):bits .xor .u64 IntKind.u64.max (x.toNat:Int)=((~~~x).toNat:Int):=by have h:=qP8 (BitVec.allOnes 64) x;rw[BitVec.allOnes_xor] at h;exact h
def zx4(j:Nat)(l m:List (BitVec 64)):List (BitVec 64):=l.take j++m.drop j
theorem zt5(l m:List (BitVec 64)):zx4 0 l m=m:=by simp[zx4]
theorem zt6{l m:List (BitVec 64)}(h:l.length=m.length):zx4 m.length l m=l:=by simp[zx4,<- h]
theorem zz0{l m:List (BitVec 64)}(h:l.length=m.length)(j:Nat):(zx4 j l m).length=m.length:=by simp[zx4];omega
theorem zz1{l m:List (BitVec 64)}{j:Nat}(h:l.length=m.length)(hj:j<m.length):(zx4 j l m)[j]?=m[j]?:=by unfold zx4;rw[List.getElem?_append_right (by simp;omega)];simp[show min j l.length=j by omega]
theorem zz2{l m:List (BitVec 64)}{j:Nat}{y:BitVec 64}(h:l.length=m.length)(hj:j<m.length)(hy:l[j]?=some y):(zx4 j l m).set j y=zx4 (j+1) l m:=by
 apply List.ext_getElem?;intro i;unfold zx4;by_cases h1:i=j
 ·subst h1;rw[List.getElem?_set_self (by simp;omega),List.getElem?_append_left (by simp;omega),List.getElem?_take,if_pos (by omega),hy]
 ·rw[List.getElem?_set_ne (Ne.symm h1)];by_cases h2:i<j
  ·rw[List.getElem?_append_left (by simp;omega),List.getElem?_append_left (by simp;omega),List.getElem?_take,List.getElem?_take,if_pos h2,if_pos (by omega)]
  ·rw[List.getElem?_append_right (by simp;omega),List.getElem?_append_right (by simp;omega)];simp only[List.length_take,List.getElem?_drop]
   congr 1
   omega
theorem zi7{w:World}{b:Nat}{v:Value}{l:List (BitVec 64)}(h:WS w b v l)(hl:l.length<=1024):Calls prog 125 #[v] w fun e w'=>∃ b' v',e=.returned v'/\w.heap.size<=b'/\q9 (fun _=>False) w w'/\WS w' b' v' (U3 l):=by
 obtain⟨cap,cur,rfl,hcap,kb⟩:=h.shape;have HC:=q8 (zx3 h hl);have H:=q8 h;have hlen:(U3 l).length=l.length:=O9 l;have HL:=q8 hlen;have hpos:=h.pos;clear h kb hlen;go_enter func125,ntmps125;go_wp2_with fail;refine HC.out.mono ?_;rintro e w1 ⟨b1,v1,rfl,hb1,hx1,hw1⟩;obtain⟨c1,cur1,rfl,hc1,kb1⟩:=hw1.shape;have HX1:=q8 hx1;have HW1:=q8 hw1;clear hx1 hw1 kb1 HC;go_wp2_with fail
 go_loopw [8] (fun i wr=>∃ j:Nat,j<=l.length/\i=.int .i64 j/\q9 (fun _=>False) w wr/\WS wr b1 (.slice (some ⟨b1,0,none⟩) l.length c1) (zx4 j (U3 l) l)) (fun i _=>l.length-(intOf i).toNat)
 case atStart=>exact⟨0,Nat.zero_le _,rfl,HX1.out,by rw[zt5];exact HW1.out⟩
 case round=>
  obtain⟨j,hj,rfl,hx,hw⟩:=hrel;have HX:=q8 hx;have HW:=q8 hw;clear hx;by_cases hlt:j<l.length
  ·obtain⟨x,hxj⟩:∃ x,l[j]?=some x:=⟨_,List.getElem?_eq_getElem hlt⟩;have c0:wr.cell? ⟨b1,j,none⟩=some (.int .u64 x.toNat):=hw.cell ((zz1 HL.out hlt).trans hxj);have f0:wr.frozen? ⟨b1,j,none⟩=false:=by
    obtain⟨_,cur9,_,_,kb9⟩:=hw.shape;exact Q8 kb9 j
   have hset:=HW.out.set (i:=j) (by rw[zz0 HL.out];exact hlt) (~~~x);rw[zz2 HL.out hlt (by simp[U3,hxj])] at hset;have HSET:=q8 hset;clear hset hw;go_wp2_with fail
   all_goals
     go_roundw
     case measure=>simp[intOf];omega
     case rel=>rw[show(if IntKind.u64.signed=true then(-1:Int) else IntKind.u64.max)=IntKind.u64.max from rfl,qP9];exact⟨j+1,by omega,by go_num,(HX.out.trans' ((q9.refl (fun k=>k=b1) wr).setCell (p:=⟨b1,j,none⟩) (fun _=>rfl) _) (fun i hi e=>by have h1:i=b1:=e;omega)),HSET.out⟩
  ·have hjl:j=l.length:=by omega
   subst hjl;rw[zt6 HL.out] at hw;have HW2:=q8 hw;clear hw;go_wp2_with fail;go_ret;exact⟨b1,_,rfl,hb1,HX.out,HW2.out⟩
theorem zm9{w:World}{b b2:Nat}{v v2:Value}{l m:List (BitVec 64)}(h:WS w b v l)(h2:WS w b2 v2 m)(he:m.length=l.length)(hl:l.length<=1024):Calls prog 91 #[v,v2] w fun e w'=>∃ b' v',e=.returned v'/\w.heap.size<=b'/\q9 (fun _=>False) w w'/\WS w' b' v' (V6 l m):=by
 obtain⟨cap,cur,rfl,hcap,kb⟩:=h.shape;obtain⟨cap2,cur2,rfl,hcap2,kb2⟩:=h2.shape;have H2:=q8 h2;have HE:=q8 he;rw[he];clear h2 kb2;have HC:=q8 (zx3 h hl);have H:=q8 h;have hlen:(V6 l m).length=l.length:=zd2 he;have HL:=q8 hlen;have hpos:=h.pos;clear h kb hlen;go_enter func91,ntmps91;go_wp2_with fail;refine HC.out.mono ?_;rintro e w1 ⟨b1,v1,rfl,hb1,hx1,hw1⟩;obtain⟨c1,cur1,rfl,hc1,kb1⟩:=hw1.shape;have HX1:=q8 hx1;have HW1:=q8 hw1;clear hx1 hw1 kb1 HC;go_wp2_with fail
 go_loopw [10] (fun i wr=>∃ j:Nat,j<=l.length/\i=.int .i64 j/\q9 (fun _=>False) w wr/\WS wr b1 (.slice (some ⟨b1,0,none⟩) l.length c1) (zx4 j (V6 l m) l)) (fun i _=>l.length-(intOf i).toNat)
 case atStart=>exact⟨0,Nat.zero_le _,rfl,HX1.out,by rw[zt5];exact HW1.out⟩
 case round=>
  obtain⟨j,hj,rfl,hx,hw⟩:=hrel;have HX:=q8 hx;have HW:=q8 hw;clear hx;by_cases hlt:j<l.length
  ·obtain⟨x,hxj⟩:∃ x,l[j]?=some x:=⟨_,List.getElem?_eq_getElem hlt⟩;have c0:wr.cell? ⟨b1,j,none⟩=some (.int .u64 x.toNat):=hw.cell ((zz1 HL.out hlt).trans hxj);have f0:wr.frozen? ⟨b1,j,none⟩=false:=by
    obtain⟨_,cur9,_,_,kb9⟩:=hw.shape;exact Q8 kb9 j
   obtain⟨y,hyj⟩:∃ y,m[j]?=some y:=⟨_,List.getElem?_eq_getElem (by rw[HE.out];exact hlt)⟩;have d0:wr.cell? ⟨b2,j,none⟩=some (.int .u64 y.toNat):=(H2.out.ext HX.out (fun f=>f)).cell hyj;clear he;have hset:=HW.out.set (i:=j) (by rw[zz0 HL.out];exact hlt) (x &&& y);rw[zz2 HL.out hlt (by simp[V6,List.getElem?_zipWith,hxj,hyj])] at hset;have HSET:=q8 hset;clear hset hw;go_wp2_with fail
   go_region
   all_goals
     go_wp2_with fail
     go_roundw
     case measure=>simp[intOf];omega
     case rel=>rw[zL1];exact⟨j+1,by omega,by go_num,(HX.out.trans' ((q9.refl (fun k=>k=b1) wr).setCell (p:=⟨b1,j,none⟩) (fun _=>rfl) _) (fun i hi e=>by have h1:i=b1:=e;omega)).drew,WS.ext HSET.out ((q9.refl (fun _=>False) _).drew) (fun f=>f)⟩
  ·have hjl:j=l.length:=by omega
   subst hjl;rw[zt6 HL.out] at hw;have HW2:=q8 hw;clear hw;go_wp2_with fail;go_ret;exact⟨b1,_,rfl,hb1,HX.out,HW2.out⟩
theorem zz3{w:World}{b b2:Nat}{v v2:Value}{l m:List (BitVec 64)}(h:WS w b v l)(h2:WS w b2 v2 m)(he:m.length=l.length)(hl:l.length<=1024):Calls prog 173 #[v,v2] w fun e w'=>∃ b' v',e=.returned v'/\w.heap.size<=b'/\q9 (fun _=>False) w w'/\WS w' b' v' (qb8 l m):=by
 obtain⟨cap,cur,rfl,hcap,kb⟩:=h.shape;obtain⟨cap2,cur2,rfl,hcap2,kb2⟩:=h2.shape;have H2:=q8 h2;have HE:=q8 he;rw[he];clear h2 kb2;have HC:=q8 (zx3 h hl);have H:=q8 h;have hlen:(qb8 l m).length=l.length:=zk7 he;have HL:=q8 hlen;have hpos:=h.pos;clear h kb hlen;go_enter func173,ntmps173;go_wp2_with fail;refine HC.out.mono ?_;rintro e w1 ⟨b1,v1,rfl,hb1,hx1,hw1⟩;obtain⟨c1,cur1,rfl,hc1,kb1⟩:=hw1.shape;have HX1:=q8 hx1;have HW1:=q8 hw1;clear hx1 hw1 kb1 HC;go_wp2_with fail
 go_loopw [10] (fun i wr=>∃ j:Nat,j<=l.length/\i=.int .i64 j/\q9 (fun _=>False) w wr/\WS wr b1 (.slice (some ⟨b1,0,none⟩) l.length c1) (zx4 j (qb8 l m) l)) (fun i _=>l.length-(intOf i).toNat)
 case atStart=>exact⟨0,Nat.zero_le _,rfl,HX1.out,by rw[zt5];exact HW1.out⟩
 case round=>
  obtain⟨j,hj,rfl,hx,hw⟩:=hrel;have HX:=q8 hx;have HW:=q8 hw;clear hx;by_cases hlt:j<l.length
  ·obtain⟨x,hxj⟩:∃ x,l[j]?=some x:=⟨_,List.getElem?_eq_getElem hlt⟩;have c0:wr.cell? ⟨b1,j,none⟩=some (.int .u64 x.toNat):=hw.cell ((zz1 HL.out hlt).trans hxj);have f0:wr.frozen? ⟨b1,j,none⟩=false:=by
    obtain⟨_,cur9,_,_,kb9⟩:=hw.shape;exact Q8 kb9 j
   obtain⟨y,hyj⟩:∃ y,m[j]?=some y:=⟨_,List.getElem?_eq_getElem (by rw[HE.out];exact hlt)⟩;have d0:wr.cell? ⟨b2,j,none⟩=some (.int .u64 y.toNat):=(H2.out.ext HX.out (fun f=>f)).cell hyj;clear he;have hset:=HW.out.set (i:=j) (by rw[zz0 HL.out];exact hlt) (x ||| y);rw[zz2 HL.out hlt (by simp[qb8,List.getElem?_zipWith,hxj,hyj])] at hset;have HSET:=q8 hset;clear hset hw;go_wp2_with fail
   go_region
   all_goals
     go_wp2_with fail
     go_roundw
     case measure=>simp[intOf];omega
     case rel=>rw[zH7];exact⟨j+1,by omega,by go_num,(HX.out.trans' ((q9.refl (fun k=>k=b1) wr).setCell (p:=⟨b1,j,none⟩) (fun _=>rfl) _) (fun i hi e=>by have h1:i=b1:=e;omega)).drew,WS.ext HSET.out ((q9.refl (fun _=>False) _).drew) (fun f=>f)⟩
  ·have hjl:j=l.length:=by omega
   subst hjl;rw[zt6 HL.out] at hw;have HW2:=q8 hw;clear hw;go_wp2_with fail;go_ret;exact⟨b1,_,rfl,hb1,HX.out,HW2.out⟩
def K9(w:World):Prop:=w.heap[1]?=some (.cells #[.int .u64 0xAAAAAAAAAAAAAAAA,.int .u64 0xCCCCCCCCCCCCCCCC,.int .u64 0xF0F0F0F0F0F0F0F0,.int .u64 0xFF00FF00FF00FF00,.int .u64 0xFFFF0000FFFF0000,.int .u64 0xFFFFFFFF00000000] 336)
theorem jv4{n:Nat}(h:n<9223372036854775808):bits .and .i64 (n:Int) 1=((n%2:Nat):Int):=by have h1:BitVec.ofInt 64 (n:Int)=BitVec.ofNat 64 n:=rfl;show IntKind.i64.wrap ((BitVec.ofInt 64 (n:Int) &&& BitVec.ofInt 64 1).toNat:Int)=_;rw[h1,BitVec.toNat_and,BitVec.toNat_ofNat,Nat.mod_eq_of_lt (by omega),show(BitVec.ofInt 64 1).toNat=2^1-1 from rfl,Nat.and_two_pow_sub_one_eq_mod];have:n%2^1<2:=Nat.mod_lt _ (by decide);simp only[IntKind.wrap,IntKind.signed,IntKind.bits];simp;omega
theorem jb1{i k:Nat}(h:i<1024):bits .and .i64 ((i:Int)/2^k) 1=(if i.testBit k=true then 1 else 0:Int):=by
 have h1:((i:Int)/2^k)=((i/2^k:Nat):Int):=by simp
 have h2:i/2^k<=i:=Nat.div_le_self _ _;rw[h1,jv4 (by omega),Nat.testBit_eq_decide_div_mod_eq];by_cases h3:i/2^k%2=1
 ·simp[h3]
 ·have h4:i/2^k%2=0:=by omega
  simp[h4]
theorem zF7{w:World}(i a:Nat)(hi:i<1024)(ha:a<16)(hp:K9 w):Calls prog 171 #[.int .i64 i,.int .i64 a] w fun e w'=>e=.returned (u64 (pat i a))/\w' = w:=by
 by_cases h6:a<6
 ·have hc:a=0\/a=1\/a=2\/a=3\/a=4\/a=5:=by omega
  have c0:=z6 hp 0;have c1:=z6 hp 1;have c2:=z6 hp 2;have c3:=z6 hp 3;have c4:=z6 hp 4;have c5:=z6 hp 5;clear hp h6 ha;rcases hc with rfl|rfl|rfl|rfl|rfl|rfl
  all_goals
   go_enter func171,ntmps171;go_wp2_with fail;go_ret;exact⟨rfl,rfl⟩
 ·have hb:=jb1 (k:=a-6) hi;have h6':6<=a:=by omega
  clear hp h6;cases ht:i.testBit (a-6) with
  | true=>
   rw[ht,if_pos rfl] at hb;have HV:Hid (pat i a=BitVec.allOnes 64):=by show _=_;unfold pat;rw[if_neg (by omega),if_pos ht]
   clear ht;go_enter func171,ntmps171;go_wp2_with fail;go_ret;exact⟨by rw[HV.out];rfl,rfl⟩
  | false=>
   rw[ht,if_neg (by decide)] at hb;have HV:Hid (pat i a=0):=by show _=_;unfold pat;rw[if_neg (by omega),if_neg (by rw[ht];decide)]
   clear ht;go_enter func171,ntmps171;go_wp2_with fail;go_ret;exact⟨by rw[HV.out];rfl,rfl⟩
theorem K9.ext{S:Nat->Prop}{w w':World}(h:K9 w)(hx:q9 S w w')(hS:¬S 1):K9 w':=(hx.block _ (z8 h) hS).trans h
theorem qF0{k a j:Nat}(h:j<k):(X4 k a true)[j]?=some (pat j a):=by simp[X4,List.getElem?_map,List.getElem?_range h]
theorem qF1(k a:Nat):U3 (X4 k a true)=X4 k a false:=by simp[U3,X4]
theorem zT5{w:World}(n a:Nat)(yes:Bool)(hn:n<=16)(ha:a<16)(hp:K9 w):Calls prog 127 #[.int .i64 n,.int .i64 a,.bool yes] w fun e w'=>∃ b' v',e=.returned v'/\w.heap.size<=b'/\q9 (fun _=>False) w w'/\WS w' b' v' (X4 (2^(n-6)) a yes):=by
 have hk:2^(n-6)<=1024:=Nat.pow_le_pow_right (n:=2) (by decide) (by omega:n-6<=10);have HC:=q8 (zy9 (w:=w) n hn);have HP:=q8 hp;obtain⟨k,hkk⟩:∃ k,2^(n-6)=k:=⟨_,rfl⟩;rw[hkk] at HC hk;rw[hkk];clear hkk hp;go_enter func127,ntmps127;go_wp2_with fail;refine HC.out.mono ?_;rintro e w1 ⟨b1,v1,rfl,hb1,hx1,hw1⟩;obtain⟨c1,cur1,hv1,hc1,kb1⟩:=hw1.shape;rw[U6] at hv1 hc1;subst hv1;have HX1:=q8 hx1;have HW1:=q8 hw1;have HL:Hid ((X4 k a true).length=(zf3 k).length):=by show _=_;rw[x8,U6]
 clear hx1 hw1 kb1 HC;go_wp2_with fail
 go_loopw [13] (fun i wr=>∃ j:Nat,j<=k/\i=.int .i64 j/\q9 (fun _=>False) w wr/\WS wr b1 (.slice (some ⟨b1,0,none⟩) k c1) (zx4 j (X4 k a true) (zf3 k))) (fun i _=>k-(intOf i).toNat)
 case atStart=>exact⟨0,Nat.zero_le _,rfl,HX1.out,by rw[zt5];exact HW1.out⟩
 case round=>
  obtain⟨j,hj,rfl,hx,hw⟩:=hrel;have HX:=q8 hx;have HW:=q8 hw;clear hx;by_cases hlt:j<k
  ·have hlt2:j<(zf3 k).length:=by rw[U6];exact hlt
   have c0:wr.cell? ⟨b1,j,none⟩=some (.int .u64 0):=hw.cell (x:=0) ((zz1 HL.out hlt2).trans (by simp[zf3,hlt]));have f0:wr.frozen? ⟨b1,j,none⟩=false:=by obtain⟨_,cur9,_,_,kb9⟩:=hw.shape;exact Q8 kb9 j
   have hset:=HW.out.set (i:=j) (by rw[zz0 HL.out];exact hlt2) (pat j a);rw[zz2 HL.out hlt2 (qF0 hlt)] at hset;have HSET:=q8 hset;have HCP:=q8 (zF7 j a (by omega) ha (HP.out.ext HX.out (fun f=>f)));clear hset hw hlt2;go_wp2_with (go_at_call 171;refine HCP.out.mono ?_;rintro e w2 ⟨rfl,rfl⟩;unfold u64)
   go_roundw
   case measure=>simp[intOf];omega
   case rel=>exact⟨j+1,by omega,by go_num,HX.out.trans' ((q9.refl (fun k=>k=b1) w2).setCell (p:=⟨b1,j,none⟩) (fun _=>rfl) _) (fun i hi e=>by have h1:i=b1:=e;omega),HSET.out⟩
  ·have hjl:j=(zf3 k).length:=by rw[U6];omega
   rw[hjl,zt6 HL.out] at hw;have HW2:=q8 hw;have hjk:j=k:=by omega
   have hl2:(X4 k a true).length<=1024:=by rw[x8];exact hk
   have HCN:=q8 (zi7 HW2.out hl2);subst hjk;clear hw hjl hl2;cases yes with
   | true=>go_wp2_with fail;go_ret;exact⟨b1,_,rfl,hb1,HX.out,HW2.out⟩
   | false=>go_wp2_with fail;refine HCN.out.mono ?_;rintro e w2 ⟨b2,v2,rfl,hb2,hx2,hw2⟩;have HX2:=q8 hx2;have HW3:=q8 hw2;clear hx2 hw2;go_wp2_with fail;go_ret;exact⟨b2,v2,rfl,by have:=HX.out.size;omega,HX.out.trans HX2.out,by rw[<- qF1];exact HW3.out⟩
def zz4(k:Nat):List (BitVec 64):=U3 (zf3 k)
theorem zT6{k n:Nat}(h:n<64*k):Z9 (zz4 k) n=true:=by unfold zz4;rw[zg4 (by rw[U6];exact h),zq0];rfl
theorem zT7(k:Nat):(zz4 k).length=k:=by unfold zz4;rw[O9,U6]
theorem zZ2{w:World}(n:Nat)(hn:n<=16):Calls prog 90 #[.int .i64 n] w fun e w'=>∃ b' v',e=.returned v'/\w.heap.size<=b'/\q9 (fun _=>False) w w'/\WS w' b' v' (zz4 (2^(n-6))):=by have hk:2^(n-6)<=1024:=Nat.pow_le_pow_right (n:=2) (by decide) (by omega:n-6<=10);have HC:=q8 (zy9 (w:=w) n hn);go_enter func90,ntmps90;go_wp2_with fail;refine HC.out.mono ?_;rintro e w1 ⟨b1,v1,rfl,hb1,hx1,hw1⟩;have HX1:=q8 hx1;have HC2:=q8 (zi7 hw1 (by rw[U6];exact hk));clear hx1 hw1 HC hk;go_wp2_with fail;refine HC2.out.mono ?_;rintro e w2 ⟨b2,v2,rfl,hb2,hx2,hw2⟩;have HX2:=q8 hx2;have HW2:=q8 hw2;clear hx2 hw2 HC2;go_wp2_with fail;go_ret;exact⟨b2,v2,rfl,by have:=HX1.out.size;omega,HX1.out.trans HX2.out,HW2.out⟩
theorem qQ0{w:World}(x:BitVec 64):Calls prog 130 #[u64 x] w fun e w'=>e=.returned (.bool (!decide (x=0)))/\w' = w:=by
 unfold u64;by_cases h:x=0
 ·have h1:((x.toNat:Int) != 0)=false:=by rw[h];rfl
  go_enter func130,ntmps130;go_wp2_with fail;go_ret;exact⟨by rw[decide_eq_true h];rfl,rfl⟩
 ·have h1:((x.toNat:Int) != 0)=true:=by
   have h0:x.toNat≠0:=fun e=>h ((qy4 x).1 e)
   simp;omega
  have HD:Hid (decide (x=0)=false):=decide_eq_false h;clear h;go_enter func130,ntmps130;go_wp2_with fail;go_ret;exact⟨by rw[HD.out];rfl,rfl⟩
theorem qq3{w:World}{b:Nat}{v:Value}{l:List (BitVec 64)}(h:WS w b v l)(hl:l.length<=1024):Calls prog 174 #[v,.func (.func 130) #[] #[]] w fun e w'=>w' = w/\((e=.returned (.int .i64 (-1))/\∀ x∈l,x=0)\/∃ k:Nat,e=.returned (.int .i64 k)/\∃ x∈l,x≠0):=by
 obtain⟨cap,cur,rfl,hcap,kb⟩:=h.shape;have H:=q8 h;clear h kb;go_enter func174,ntmps174;go_wp2_with fail
 go_loopw [8] (fun i wr=>∃ j:Nat,j<=l.length/\i=.int .i64 j/\wr=w/\∀ x∈l.take j,x=0) (fun i _=>l.length-(intOf i).toNat)
 case atStart=>exact⟨0,Nat.zero_le _,rfl,rfl,by simp⟩
 case round=>
  obtain⟨j,hj,rfl,rfl,hz⟩:=hrel;have HZ:=q8 hz;clear hz;by_cases hlt:j<l.length
  ·obtain⟨x,hxj⟩:∃ x,l[j]?=some x:=⟨_,List.getElem?_eq_getElem hlt⟩;have c0:=H.out.cell hxj;have HXJ:=q8 hxj;clear hxj;by_cases hx:x=0
   ·have HX:=q8 hx;clear hx;go_wp2_with (first|(go_at_call 130;refine(qQ0 x).mono ?_;rintro e w2 ⟨rfl,rfl⟩;rw[decide_eq_true HX.out])|fail)
    go_roundw
    case measure=>simp[intOf];omega
    case rel=>
     refine⟨j+1,by omega,by go_num,by simp,fun y hy=>?_⟩;rw[List.take_add_one,HXJ.out] at hy;rcases List.mem_append.1 hy with e|e
     ·exact HZ.out y e
     ·simp at e;rw[e];exact HX.out
   ·have HX:=q8 hx;clear hx;go_wp2_with (first|(go_at_call 130;refine(qQ0 x).mono ?_;rintro e w2 ⟨rfl,rfl⟩;rw[decide_eq_false HX.out])|fail);go_ret;exact⟨rfl,.inr ⟨j,rfl,x,List.mem_of_getElem? HXJ.out,HX.out⟩⟩
  ·have hjl:j=l.length:=by omega
   subst hjl;go_wp2_with fail;go_ret;exact⟨rfl,.inl ⟨rfl,fun x hx=>HZ.out x (by rw[List.take_length];exact hx)⟩⟩
theorem zR8{w:World}{b:Nat}{v:Value}{l:List (BitVec 64)}(h:WS w b v l)(hl:l.length<=1024):Calls prog 129 #[v,.func (.func 130) #[] #[]] w fun e w'=>w' = w/\∃ r,e=.returned (.bool r)/\(r=false↔∀ x∈l,x=0):=by
 have HC:=q8 (qq3 h hl);clear h;go_enter func129,ntmps129;go_wp2_with fail;refine HC.out.mono ?_;rintro e w2 ⟨rfl,⟨rfl,h1⟩|⟨k,rfl,h1⟩⟩
 ·have H1:=q8 h1;clear h1;go_wp2_with fail;go_ret;exact⟨rfl,false,rfl,fun _=>H1.out,fun _=>rfl⟩
 ·have H1:=q8 h1;clear h1;go_wp2_with fail;go_ret;refine⟨rfl,true,rfl,fun e=>by simp at e,fun e=>?_⟩;obtain⟨x,hx,hn⟩:=H1.out;exact absurd (e x hx) hn
theorem zT8{w:World}{b:Nat}{v:Value}{l:List (BitVec 64)}(h:WS w b v l)(hl:l.length<=1024):Calls prog 93 #[v] w fun e w'=>w' = w/\∃ r,e=.returned (.bool r)/\(r=true↔∀ n,n<64*l.length->Z9 l n=false):=by have HC:=q8 (zR8 h hl);clear h;go_enter func93,ntmps93;go_wp2_with fail;refine HC.out.mono ?_;rintro e w2 ⟨rfl,r,rfl,h1⟩;have H1:=q8 h1;clear h1;go_wp2_with fail;go_ret;refine⟨rfl,!r,rfl,?_⟩;rw[<- qW3,<- H1.out];simp
def zL4(l:List (BitVec 64))(f:Nat->BitVec 64->BitVec 64)(j:Nat):Prop:=∀ i x,i<j->l[i]?=some x->f i x=0
theorem zL5{l:List (BitVec 64)}{f:Nat->BitVec 64->BitVec 64}{j:Nat}{x:BitVec 64}(h:l[j]?=some x):zL4 l f (j+1)↔zL4 l f j/\f j x=0:=by
 constructor
 ·intro hn;exact⟨fun i y hi e=>hn i y (by omega) e,hn j x (by omega) h⟩
 ·rintro⟨h1,h2⟩ i y hi e;by_cases hij:i=j
  ·subst hij;rw[h] at e;simp at e;subst e;exact h2
  ·exact h1 i y (by omega) e
theorem qF2{w:World}{b:Nat}{v:Value}{l:List (BitVec 64)}(a:Nat)(h:WS w b v l)(hl:l.length<=1024)(ha:a<16)(hp:K9 w):Calls prog 177 #[v,.int .i64 a] w fun e w'=>w' = w/\∃ y n:Nat,e=.returned (.tuple #[.int .i64 y,.int .i64 n])/\(y=0↔zL4 l (fun i x=>x &&& pat i a) l.length)/\(n=0↔zL4 l (fun i x=>x &&& ~~~pat i a) l.length):=by
 obtain⟨cap,cur,rfl,hcap,kb⟩:=h.shape;have H:=q8 h;have HP:=q8 hp;clear h kb hp;go_enter func177,ntmps177;go_wp2_with fail
 go_loopw [6,7,13] (fun yv nv i wr=>∃ j y n:Nat,j<=l.length/\i=.int .i64 j/\yv=.int .i64 y/\nv=.int .i64 n/\y<=127*j/\n<=127*j/\wr=w/\(y=0↔zL4 l (fun i x=>x &&& pat i a) j)/\(n=0↔zL4 l (fun i x=>x &&& ~~~pat i a) j)) (fun _ _ i _=>l.length-(intOf i).toNat)
 case atStart=>exact⟨0,0,0,Nat.zero_le _,rfl,rfl,rfl,by omega,by omega,rfl,⟨fun _ i x hi=>by omega,fun _=>rfl⟩,⟨fun _ i x hi=>by omega,fun _=>rfl⟩⟩
 case round=>
  obtain⟨j,y,n,hj,rfl,rfl,rfl,hy,hn,rfl,h1,h2⟩:=hrel;have H1:=q8 h1;have H2:=q8 h2;clear h1 h2;by_cases hlt:j<l.length
  ·obtain⟨x,hxj⟩:∃ x,l[j]?=some x:=⟨_,List.getElem?_eq_getElem hlt⟩;have c0:=H.out.cell hxj;have HXJ:=q8 hxj;unfold u64 at c0;clear hxj;go_wp2_with (first|(go_at_call 171;refine(zF7 j a (by omega) ha HP.out).mono ?_;rintro e w2 ⟨rfl,rfl⟩;unfold u64)|fail);rw[zL1];refine(qg8 (x &&& pat j a)).mono ?_;rintro e w3 ⟨p,rfl,hp1,hp2,rfl⟩;have HP1:=q8 hp1;clear hp1;go_wp2_with fail;rw[zy7];refine(qg8 (x &&& ~~~pat j a)).mono ?_;rintro e w4 ⟨q,rfl,hq1,hq2,rfl⟩;have HQ1:=q8 hq1;clear hq1;go_wp2_with fail
   go_roundw
   case measure=>simp[intOf];omega
   case rel=>
    refine⟨j+1,y+p,n+q,by omega,by go_num,by go_num,by go_num,by omega,by omega,by simp,?_,?_⟩
    ·rw[zL5 HXJ.out,<- H1.out];have:=HP1.out;show _↔_/\x &&& pat j a=0;rw[<- this];omega
    ·rw[zL5 HXJ.out,<- H2.out];have:=HQ1.out;show _↔_/\x &&& ~~~pat j a=0;rw[<- this];omega
  ·have hjl:j=l.length:=by omega
   subst hjl;go_wp2_with fail
   go_ret2
   exact⟨rfl,y,n,rfl,H1.out,H2.out⟩
theorem zT9{l:List (BitVec 64)}{a:Nat}(neg:Bool):zL4 l (fun i x=>x &&& (if neg=true then ~~~pat i a else pat i a)) l.length↔∀ n,n<64*l.length->Z9 l n=true->n.testBit a=neg:=by
 constructor
 ·intro h n hn hh;obtain⟨x,hx,e⟩:=zx9 hn;rw[e] at hh;have h1:=h (n/64) x (jl2 hn) hx;have h2:(x &&& (if neg=true then ~~~pat (n/64) a else pat (n/64) a)).getLsbD (n%64)=false:=by
   have:(x &&& (if neg=true then ~~~pat (n/64) a else pat (n/64) a))=0:=h1;rw[this];simp
  have h3:=zI5 n a;rw[BitVec.getLsbD_and,hh] at h2;cases neg with
  | true=>simp only[if_true] at h2;rw[BitVec.getLsbD_not,h3] at h2;simpa[show n%64<64 by omega] using h2
  | false=>simp only[Bool.false_eq_true,if_false] at h2;rw[h3] at h2;simpa using h2
 ·intro h i x hi hx;show(x &&& (if neg=true then ~~~pat i a else pat i a))=0;apply BitVec.eq_of_getLsbD_eq;intro c hc;have h1:=h (64*i+c) (by omega);have h2:=zI5 (64*i+c) a;rw[zW7 (x:=x) (by rw[show(64*i+c)/64=i by omega];exact hx),show(64*i+c)%64=c by omega] at h1;rw[show(64*i+c)/64=i by omega,show(64*i+c)%64=c by omega] at h2;rw[BitVec.getLsbD_and];cases hb:x.getLsbD c with
  | false=>simp
  | true=>
   have h3:=h1 hb;cases neg with
   | true=>simp only[if_true];rw[BitVec.getLsbD_not,h2,h3];simp
   | false=>simp only[Bool.false_eq_true,if_false];rw[h2,h3];simp
theorem zU0{w:World}{b:Nat}{v:Value}{l:List (BitVec 64)}(a:Nat)(h:WS w b v l)(hl:l.length<=1024)(ha:a<16)(hp:K9 w):Calls prog 177 #[v,.int .i64 a] w fun e w'=>w' = w/\∃ y n:Nat,e=.returned (.tuple #[.int .i64 y,.int .i64 n])/\(y=0↔∀ x,x<64*l.length->Z9 l x=true->x.testBit a=false)/\(n=0↔∀ x,x<64*l.length->Z9 l x=true->x.testBit a=true):=by
 refine(qF2 a h hl ha hp).mono ?_;rintro e w' ⟨h1,y,n,h2,h3,h4⟩;refine⟨h1,y,n,h2,?_,?_⟩
 ·rw[h3,<- zT9 false]
  rfl
 ·rw[h4,<- zT9 true]
  rfl
end Go.Proofs.YtegbdaffhpiacaaGreatDoor
