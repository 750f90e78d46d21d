/- Counting a word's bits; sets of worlds in memory: Clone, None; Sets of worlds in memory: Not, And, Or; Sets of worlds in memory: pattern, Where, All, Empty, Votes; Sets of worlds in memory: Empty, Votes. -/
import Derived.Test.YtegbdaffhpiacaaGreatDoorBck23
import Derived.Test.YtegbdaffhpiacaaGreatDoorBck24
import Derived.Test.YtegbdaffhpiacaaGreatDoorBck01
import Derived.Laws.AppendOwnNone
import Derived.Laws.MakeOwn
import Derived.Lib.SliceRun
namespace Go.Proofs.YtegbdaffhpiacaaGreatDoor
open Go.RowKit Ar
structure WS (w:World) (b:Nat) (v:Value) (l:List (BitVec 64)):Prop where
 own:w.ownsRow 0 195 1 v l.length (l.map u64)
 ne:l ≠ []
 blk:v.ownBlock=some b
theorem WS.pos {w:World} {b:Nat} {v:Value} {l:List (BitVec 64)} (h:WS w b v l):0 < l.length:=List.length_pos_iff.2 h.ne
theorem WS.shape {w:World} {b:Nat} {v:Value} {l:List (BitVec 64)} (h:WS w b v l):∃ cap cur,v=.slice (some ⟨b,0,none⟩) l.length cap/\l.length<=cap/\w.heap[b]?=some (.cells cur 195):=by
 have hp:=h.pos
 rcases h.own.2 with ⟨_,e⟩ | ⟨g,cap,cur,hv,_,hh,hc,_⟩
 ·omega
 ·have hb:=h.blk
  rw [hv] at hb
  simp [Value.ownBlock] at hb
  subst hb
  exact ⟨cap,cur,hv,hc,hh⟩
theorem WS.lt {w:World} {b:Nat} {v:Value} {l:List (BitVec 64)} (h:WS w b v l):b < w.heap.size:=(h.own.lt b h.blk).2
theorem WS.ext {S:Nat->Prop} {w w':World} {b:Nat} {v:Value} {l:List (BitVec 64)} (h:WS w b v l) (hx:q9 S w w') (hS:¬S b):WS w' b v l :=
 ⟨z7 h.own hx (fun k hk=>by rw [h.blk] at hk;simp at hk;rw [<- hk];exact hS),h.ne,h.blk⟩
theorem WS.cell {w:World} {b:Nat} {v:Value} {l:List (BitVec 64)} (h:WS w b v l) {i:Nat} {x:BitVec 64} (hx:l[i]?=some x):w.cell? ⟨b,i,none⟩=some (u64 x):=by
 obtain ⟨cap,cur,hv,_,_⟩:=h.shape
 have hi:=(List.getElem?_eq_some_iff.1 hx).1
 have ho:=h.own
 rw [hv] at ho
 rw [ho.cellAt i (by omega)]
 simp [hx]
theorem WS.set {w:World} {b:Nat} {v:Value} {l:List (BitVec 64)} (h:WS w b v l) {i:Nat} (hi:i < l.length) (y:BitVec 64):WS (w.setCell ⟨b,i,none⟩ (u64 y)) b v (l.set i y):=by
 obtain ⟨cap,cur,hv,hc,hh⟩:=h.shape
 refine ⟨?_,fun e=>h.ne (by simpa using congrArg List.length e),h.blk⟩
 rcases h.own.2 with ⟨_,e⟩ | ⟨g,cap',cur',hv',hb,hh',hc',hm,hsz,htk⟩
 ·omega
 ·rw [hv] at hv'
  simp at hv'
  obtain ⟨rfl,rfl⟩:=hv'
  rw [List.length_set,List.map_set]
  refine ⟨by simp,.inr ⟨b,cap,cur'.setIfInBounds i (u64 y),hv,hb,Y0 hh' i _,hc',hm,by simpa using hsz,?_⟩⟩
  rw [Array.toList_setIfInBounds,<- htk,List.take_set]
theorem qu3 (x:BitVec 64):x.toNat=0↔x=0:=by
 constructor
 ·intro e
  apply BitVec.eq_of_toNat_eq
  simpa using e
 ·rintro rfl
  simp
theorem qc3 {a m:Nat} (ha:a < 18446744073709551616) (hm:m < 18446744073709551616):bits .and .u64 (a:Int) (m:Int)=((a &&& m:Nat):Int):=by
 have h:=zI9 (BitVec.ofNat 64 a) (BitVec.ofNat 64 m)
 rw [BitVec.toNat_and,BitVec.toNat_ofNat,BitVec.toNat_ofNat,Nat.mod_eq_of_lt ha,Nat.mod_eq_of_lt hm] at h
 exact h
theorem zP7 {a:Nat} (ha:a < 18446744073709551616):IntKind.u64.wrap (a:Int)=(a:Int):=by
 have h:=zl1 (BitVec.ofNat 64 a)
 rw [BitVec.toNat_ofNat,Nat.mod_eq_of_lt ha] at h
 exact h
theorem ji4 {z:Nat} (hz:z < 18446744073709551616):bits .and .i64 (wrap64 (z:Int)) 127=((z % 128:Nat):Int):=by
 have h1:BitVec.ofInt 64 (wrap64 (z:Int))=BitVec.ofNat 64 z:=by
  apply BitVec.eq_of_toNat_eq
  unfold wrap64
  simp
  omega
 show IntKind.i64.wrap ((BitVec.ofInt 64 (wrap64 (z:Int)) &&& BitVec.ofInt 64 127).toNat:Int)=_
 rw [h1,BitVec.toNat_and,BitVec.toNat_ofNat,Nat.mod_eq_of_lt hz,show (BitVec.ofInt 64 127).toNat=2 ^ 7 - 1 from rfl,Nat.and_two_pow_sub_one_eq_mod]
 have:z % 2 ^ 7 < 128:=Nat.mod_lt _ (by decide)
 simp only [IntKind.wrap,IntKind.signed,IntKind.bits]
 simp
 omega
set_option maxHeartbeats 400000 in
theorem qc4 {w:World} (x:BitVec 64):Calls Tryz.prog 209 #[u64 x] w fun e w'=>∃ n:Nat,e=.returned (.int .i64 n)/\(n=0↔x=0)/\n<=127/\w' = w:=by
 unfold u64
 have hx:=x.isLt
 obtain ⟨hb,hz⟩:=jd2 hx
 obtain ⟨n,hn⟩:∃ n,n=x.toNat:=⟨_,rfl⟩
 rw [<- hn] at hb hz hx
 obtain ⟨a,ha⟩:∃ a,a=s1 0x5555555555555555 n:=⟨_,rfl⟩
 obtain ⟨b,hbb⟩:∃ b,b=s2 0x3333333333333333 a:=⟨_,rfl⟩
 obtain ⟨c,hc⟩:∃ c,c=s3 0x0F0F0F0F0F0F0F0F b:=⟨_,rfl⟩
 have hpc:pc3 n=c:=by unfold pc3;rw [<- ha,<- hbb,<- hc]
 rw [hpc] at hb hz
 unfold zT2 at hb hz
 have l1:a < 18446744073709551616:=by
  rw [ha];unfold s1
  have:=Nat.and_le_right (n:=n / 2) (m:=0x5555555555555555)
  have:=Nat.and_le_right (n:=n) (m:=0x5555555555555555)
  omega
 have l2:b < 7378697629483820648:=by
  rw [hbb];unfold s2
  have:=Nat.and_le_right (n:=a / 4) (m:=0x3333333333333333)
  have:=Nat.and_le_right (n:=a) (m:=0x3333333333333333)
  omega
 have e1:IntKind.u64.wrap (bits .and .u64 ((n:Int) / 2) 6148914691236517205+bits .and .u64 (n:Int) 6148914691236517205)=(a:Int):=by
  have h1:=qc3 (a:=n / 2) (m:=6148914691236517205) (by omega) (by omega)
  have h2:=qc3 (a:=n) (m:=6148914691236517205) (by omega) (by omega)
  have h3:((n / 2:Nat):Int)=(n:Int) / 2:=by omega
  rw [h3] at h1
  rw [show (6148914691236517205:Int)=((6148914691236517205:Nat):Int) from rfl,h1,h2,ha]
  rw [ha] at l1
  exact zP7 l1
 have e2:IntKind.u64.wrap (bits .and .u64 ((a:Int) / 4) 3689348814741910323+bits .and .u64 (a:Int) 3689348814741910323)=(b:Int):=by
  have h1:=qc3 (a:=a / 4) (m:=3689348814741910323) (by omega) (by omega)
  have h2:=qc3 (a:=a) (m:=3689348814741910323) (by omega) (by omega)
  have h3:((a / 4:Nat):Int)=(a:Int) / 4:=by omega
  rw [h3] at h1
  rw [show (3689348814741910323:Int)=((3689348814741910323:Nat):Int) from rfl,h1,h2,hbb]
  rw [hbb] at l2
  exact zP7 (a:=s2 3689348814741910323 a) (by omega)
 have e3:bits .and .u64 (IntKind.u64.wrap ((b:Int) / 16+(b:Int))) 1085102592571150095=(c:Int):=by
  have h1:=zP7 (a:=b / 16+b) (by omega)
  have h2:=qc3 (a:=b / 16+b) (m:=1085102592571150095) (by omega) (by omega)
  have h3:((b / 16+b:Nat):Int)=(b:Int) / 16+(b:Int):=by omega
  rw [h3] at h1 h2
  rw [h1,show (1085102592571150095:Int)=((1085102592571150095:Nat):Int) from rfl,h2,hc]
  rfl
 have e4:IntKind.u64.wrap ((c:Int)+(c:Int) / 256)=((c+c / 256:Nat):Int):=by
  rw [<- zP7 (a:=c+c / 256) (by omega)];congr 1
 obtain ⟨d,hd⟩:∃ d,d=c+c / 256:=⟨_,rfl⟩
 rw [<- hd] at e4 hb hz
 have e5:IntKind.u64.wrap ((d:Int)+(d:Int) / 65536)=((d+d / 65536:Nat):Int):=by
  rw [<- zP7 (a:=d+d / 65536) (by omega)];congr 1
 obtain ⟨f,hf⟩:∃ f,f=d+d / 65536:=⟨_,rfl⟩
 rw [<- hf] at e5 hb hz
 have e6:IntKind.u64.wrap ((f:Int)+(f:Int) / 4294967296)=((f+f / 4294967296:Nat):Int):=by
  rw [<- zP7 (a:=f+f / 4294967296) (by omega)];congr 1
 obtain ⟨g,hg⟩:∃ g,g=f+f / 4294967296:=⟨_,rfl⟩
 rw [<- hg] at e6 hb hz
 have e7:bits .and .i64 (wrap64 (g:Int)) 127=((g % 128:Nat):Int):=ji4 hb
 obtain ⟨r,hr⟩:∃ r,r=g % 128:=⟨_,rfl⟩
 have hr2:r<=127:=by rw [hr];exact Nat.le_of_lt_succ (Nat.mod_lt g (by decide))
 rw [<- hr] at e7 hz
 have HZ:Hid (r=0↔x=0):=by
  show _↔_
  rw [hz,hn]
  exact qu3 x
 rw [<- hn]
 clear hr hz hb hg hf hd hpc hc hbb ha hn hx l1 l2
 go_enter Tryz.func209,Tryz.ntmps209
 go_wp2_with fail
 go_ret
 exact ⟨r,rfl,HZ.out,hr2,rfl⟩
theorem qu4:(Tryz.prog.info? 195).map (fun i=>(i.zero,i.size,i.bytes))=some (some (.int .u64 0),1,8):=by kernel_rfl
theorem qm1 (n:Nat):madeCells #[Value.int .u64 0] n=Array.replicate n (Value.int .u64 0):=by
 apply Array.ext
 ·simp [madeCells]
 ·intro i h1 h2
  simp [madeCells,Nat.mod_one]
theorem qW0 (n:Nat) (h:n<=1024) (w:World):(Instr.makeSlice 136 (.int .i64 (n:Int)) (.int .i64 (n:Int))).run Tryz.prog w=.ok (.slice (some ⟨w.heap.size,0,none⟩) n n) (w.alloc (.cells (Array.replicate n (.int .u64 0)) 195)):=by
 obtain ⟨i0,hi,hz0,hz1,hz2⟩:=info_parts qu4
 have:=run_make (P:=Tryz.prog) w 136 195 i0 _ Tryz.underlying136 hi hz0 .i64 .i64 (n:Int) (n:Int) (by omega) (Int.le_refl _) (by rw [hz2];omega) (by omega)
 rw [this,hz1]
 have e:(n:Int).toNat=n:=by omega
 rw [e,Nat.mul_one]
 rw [show (Value.int .u64 0).cells=#[Value.int .u64 0] from rfl,qm1]
set_option maxRecDepth 10000 in
set_option maxHeartbeats 400000 in
theorem zx2 {w:World} (n:Nat) (hn:n<=16):Calls Tryz.prog 124 #[.int .i64 n] w fun e w'=>∃ b v,e=.returned v/\w.heap.size<=b/\q9 (fun _=>False) w w'/\WS w' b v (ze3 (2 ^ (n - 6))):=by
 have hk:2 ^ (n - 6)<=1024:=Nat.pow_le_pow_right (n:=2) (by decide) (by omega:n - 6<=10)
 have hp:0 < 2 ^ (n - 6):=Nat.pos_of_ne_zero (by simp)
 have hw:wrap64 (2 ^ (max 0 ((n:Int) - 6)).toNat)=((2 ^ (n - 6):Nat):Int):=by
  rw [show (max 0 ((n:Int) - 6)).toNat=n - 6 by omega]
  have:((2:Int) ^ (n - 6))=((2 ^ (n - 6):Nat):Int):=by simp
  rw [this]
  unfold wrap64
  omega
 have hm:=qW0 (2 ^ (n - 6)) hk w
 obtain ⟨k,hkk⟩:∃ k,2 ^ (n - 6)=k:=⟨_,rfl⟩
 rw [hkk] at hw hm hk hp
 rw [hkk]
 clear hkk
 go_enter Tryz.func124,Tryz.ntmps124
 go_wp2_with (fail)
 go_ret
 refine ⟨w.heap.size,_,rfl,Nat.le_refl _,(q9.refl _ w).alloc _,?_,?_,rfl⟩
 ·rw [U1]
  exact ⟨by simp [ze3],.inr ⟨w.heap.size,k,_,rfl,Nat.zero_le _,heap_alloc_new w _,Nat.le_refl _,by unfold maxLen;omega,by simp,by simp [ze3,u64]⟩⟩
 ·intro e
  have:=congrArg List.length e
  rw [U1] at this
  simp at this
  omega
set_option maxRecDepth 10000 in
set_option maxHeartbeats 400000 in
theorem zv6 {w:World} {b:Nat} {v:Value} {l:List (BitVec 64)} (h:WS w b v l) (hl:l.length<=1024):Calls Tryz.prog 126 #[v] w fun e w'=>∃ b' v',e=.returned v'/\w.heap.size<=b'/\q9 (fun _=>False) w w'/\WS w' b' v' l:=by
 obtain ⟨cap,cur,rfl,hcap,kb⟩:=h.shape
 have hpos:=h.pos
 have H:=q8 h
 clear h kb
 obtain ⟨i0,hi,hz0,hz1,hz2⟩:=info_parts qu4
 have hq:=Lib.run_eql_slice_nil (P:=Tryz.prog) w 136 195 (some ⟨b,0,none⟩) l.length cap 0 0 Tryz.underlying136
 go_enter Tryz.func126,Tryz.ntmps126
 go_wp2_with (at_builtin;refine wpList_append_own_at _ rfl _ _ 136 rfl 0 195 i0 (.int .u64 0) 1 8 Tryz.underlying136 hi hz0 hz1 hz2 rfl (by decide) _ 0 [] rfl ?c0 ⟨b,0,none⟩ l.length cap (l.map u64) rfl ?c1 ?c2 ?c3 ?c4 ?c5 (Nat.zero_le _) ?_)
 case c0=>exact World.ownsRow_made w #[] 0 (Nat.zero_le _) (Nat.zero_le _) rfl
 case c1=>simp
 case c2 =>
  intro j u hj
  obtain ⟨x,hx,rfl⟩:∃ x,l[j]?=some x/\u64 x=u:=by simpa using hj
  have h2:=(H.out.ext ((q9.refl (fun _=>False) w).alloc (.cells #[] 195)) (fun f=>f)).cell hx
  simp only [Addr.add]
  split
  ·rename_i h0
   subst h0
   exact h2
  ·simpa using h2
 case c3=>intro u hu;obtain ⟨x,_,rfl⟩:=List.mem_map.1 hu;rfl
 case c4=>unfold maxLen;omega
 case c5=>omega
 intro v' w1 hown hgrow hnil hat
 have HO:=q8 hown
 have HG:=q8 hgrow
 have HA:=q8 hat
 clear hown hgrow hnil hat hq hi hz0 hz1 hz2
 go_wp2_with fail
 go_ret
 have hA:v'.ownBlock=some w.heap.size\/v'.ownBlock=some (w.heap.size+1):=HA.out
 obtain ⟨g,hg,hge⟩:∃ g,v'.ownBlock=some g/\w.heap.size<=g:=by
  rcases hA with e | e
  ·exact ⟨_,e,Nat.le_refl _⟩
  ·exact ⟨_,e,Nat.le_succ _⟩
 refine ⟨g,v',rfl,hge,?_,by simpa using HO.out,fun e=>by rw [e] at hpos;simp at hpos,hg⟩
 exact ((q9.refl (fun _=>False) w).alloc _).grown HG.out (fun k e hk=>by have h1:w.heap.size=k:=Option.some.inj e;omega)
theorem qK7 (x y:BitVec 64):bits .xor .u64 (x.toNat:Int) (y.toNat:Int)=((x ^^^ y).toNat:Int):=by
 show IntKind.wrap .u64 ((BitVec.ofInt 64 (x.toNat:Int) ^^^ BitVec.ofInt 64 (y.toNat:Int)).toNat:Int)=_
 rw [za1,za1,zl1]
theorem qK8 (x:BitVec 64):bits .xor .u64 IntKind.u64.max (x.toNat:Int)=((~~~x).toNat:Int):=by
 have h:=qK7 (BitVec.allOnes 64) x
 rw [BitVec.allOnes_xor] at h
 exact h
def zv7 (j:Nat) (l m:List (BitVec 64)):List (BitVec 64):=l.take j++m.drop j
theorem zr7 (l m:List (BitVec 64)):zv7 0 l m=m:=by simp [zv7]
theorem zr8 {l m:List (BitVec 64)} (h:l.length=m.length):zv7 m.length l m=l:=by simp [zv7,<- h]
theorem zx3 {l m:List (BitVec 64)} (h:l.length=m.length) (j:Nat):(zv7 j l m).length=m.length:=by simp [zv7];omega
theorem zx4 {l m:List (BitVec 64)} {j:Nat} (h:l.length=m.length) (hj:j < m.length):(zv7 j l m)[j]?=m[j]?:=by
 unfold zv7
 rw [List.getElem?_append_right (by simp;omega)]
 simp [show min j l.length=j by omega]
theorem zx5 {l m:List (BitVec 64)} {j:Nat} {y:BitVec 64} (h:l.length=m.length) (hj:j < m.length) (hy:l[j]?=some y):(zv7 j l m).set j y=zv7 (j+1) l m:=by
 apply List.ext_getElem?
 intro i
 unfold zv7
 by_cases h1:i=j
 ·subst h1
  rw [List.getElem?_set_self (by simp;omega),List.getElem?_append_left (by simp;omega),List.getElem?_take,if_pos (by omega),hy]
 ·rw [List.getElem?_set_ne (Ne.symm h1)]
  by_cases h2:i < j
  ·rw [List.getElem?_append_left (by simp;omega),List.getElem?_append_left (by simp;omega),List.getElem?_take,List.getElem?_take,if_pos h2,if_pos (by omega)]
  ·rw [List.getElem?_append_right (by simp;omega),List.getElem?_append_right (by simp;omega)]
   simp only [List.length_take,List.getElem?_drop]
   congr 1
   omega
set_option maxRecDepth 10000 in
set_option maxHeartbeats 400000 in
theorem zh5 {w:World} {b:Nat} {v:Value} {l:List (BitVec 64)} (h:WS w b v l) (hl:l.length<=1024):Calls Tryz.prog 125 #[v] w fun e w'=>∃ b' v',e=.returned v'/\w.heap.size<=b'/\q9 (fun _=>False) w w'/\WS w' b' v' (V9 l):=by
 obtain ⟨cap,cur,rfl,hcap,kb⟩:=h.shape
 have HC:=q8 (zv6 h hl)
 have H:=q8 h
 have hlen:(V9 l).length=l.length:=H7 l
 have HL:=q8 hlen
 have hpos:=h.pos
 clear h kb hlen
 go_enter Tryz.func125,Tryz.ntmps125
 go_wp2_with fail
 refine HC.out.mono ?_
 rintro e w1 ⟨b1,v1,rfl,hb1,hx1,hw1⟩
 obtain ⟨c1,cur1,rfl,hc1,kb1⟩:=hw1.shape
 have HX1:=q8 hx1
 have HW1:=q8 hw1
 clear hx1 hw1 kb1 HC
 go_wp2_with fail
 go_loopw [8] (fun i wr=>∃ j:Nat,j<=l.length/\i=.int .i64 j/\q9 (fun _=>False) w wr/\WS wr b1 (.slice (some ⟨b1,0,none⟩) l.length c1) (zv7 j (V9 l) l)) (fun i _=>l.length - (intOf i).toNat)
 case atStart=>exact ⟨0,Nat.zero_le _,rfl,HX1.out,by rw [zr7];exact HW1.out⟩
 case round =>
  obtain ⟨j,hj,rfl,hx,hw⟩:=hrel
  have HX:=q8 hx
  have HW:=q8 hw
  clear hx
  by_cases hlt:j < l.length
  ·obtain ⟨x,hxj⟩:∃ x,l[j]?=some x:=⟨_,List.getElem?_eq_getElem hlt⟩
   have c0:wr.cell? ⟨b1,j,none⟩=some (.int .u64 x.toNat):=hw.cell ((zx4 HL.out hlt).trans hxj)
   have f0:wr.frozen? ⟨b1,j,none⟩=false:=by
    obtain ⟨_,cur9,_,_,kb9⟩:=hw.shape
    exact Q0 kb9 j
   have hset:=HW.out.set (i:=j) (by rw [zx3 HL.out];exact hlt) (~~~x)
   rw [zx5 HL.out hlt (by simp [V9,hxj])] at hset
   have HSET:=q8 hset
   clear hset hw
   go_wp2_with fail
   all_goals
     go_roundw
     case measure=>simp [intOf];omega
     case rel =>
      rw [show (if IntKind.u64.signed=true then (-1:Int) else IntKind.u64.max)=IntKind.u64.max from rfl,qK8]
      exact ⟨j+1,by omega,by go_num,(HX.out.trans' ((q9.refl (fun k=>k=b1) wr).setCell (p:=⟨b1,j,none⟩) (fun _=>rfl) _) (fun i hi e=>by have h1:i=b1:=e;omega)),HSET.out⟩
  ·have hjl:j=l.length:=by omega
   subst hjl
   rw [zr8 HL.out] at hw
   have HW2:=q8 hw
   clear hw
   go_wp2_with fail
   go_ret
   exact ⟨b1,_,rfl,hb1,HX.out,HW2.out⟩
set_option maxRecDepth 10000 in
set_option maxHeartbeats 400000 in
theorem zl2 {w:World} {b b2:Nat} {v v2:Value} {l m:List (BitVec 64)} (h:WS w b v l) (h2:WS w b2 v2 m) (he:m.length=l.length) (hl:l.length<=1024):Calls Tryz.prog 91 #[v,v2] w fun e w'=>∃ b' v',e=.returned v'/\w.heap.size<=b'/\q9 (fun _=>False) w w'/\WS w' b' v' (W8 l m):=by
 obtain ⟨cap,cur,rfl,hcap,kb⟩:=h.shape
 obtain ⟨cap2,cur2,rfl,hcap2,kb2⟩:=h2.shape
 have H2:=q8 h2
 have HE:=q8 he
 rw [he]
 clear h2 kb2
 have HC:=q8 (zv6 h hl)
 have H:=q8 h
 have hlen:(W8 l m).length=l.length:=zc3 he
 have HL:=q8 hlen
 have hpos:=h.pos
 clear h kb hlen
 go_enter Tryz.func91,Tryz.ntmps91
 go_wp2_with fail
 refine HC.out.mono ?_
 rintro e w1 ⟨b1,v1,rfl,hb1,hx1,hw1⟩
 obtain ⟨c1,cur1,rfl,hc1,kb1⟩:=hw1.shape
 have HX1:=q8 hx1
 have HW1:=q8 hw1
 clear hx1 hw1 kb1 HC
 go_wp2_with fail
 go_loopw [10] (fun i wr=>∃ j:Nat,j<=l.length/\i=.int .i64 j/\q9 (fun _=>False) w wr/\WS wr b1 (.slice (some ⟨b1,0,none⟩) l.length c1) (zv7 j (W8 l m) l)) (fun i _=>l.length - (intOf i).toNat)
 case atStart=>exact ⟨0,Nat.zero_le _,rfl,HX1.out,by rw [zr7];exact HW1.out⟩
 case round =>
  obtain ⟨j,hj,rfl,hx,hw⟩:=hrel
  have HX:=q8 hx
  have HW:=q8 hw
  clear hx
  by_cases hlt:j < l.length
  ·obtain ⟨x,hxj⟩:∃ x,l[j]?=some x:=⟨_,List.getElem?_eq_getElem hlt⟩
   have c0:wr.cell? ⟨b1,j,none⟩=some (.int .u64 x.toNat):=hw.cell ((zx4 HL.out hlt).trans hxj)
   have f0:wr.frozen? ⟨b1,j,none⟩=false:=by
    obtain ⟨_,cur9,_,_,kb9⟩:=hw.shape
    exact Q0 kb9 j
   obtain ⟨y,hyj⟩:∃ y,m[j]?=some y:=⟨_,List.getElem?_eq_getElem (by rw [HE.out];exact hlt)⟩
   have d0:wr.cell? ⟨b2,j,none⟩=some (.int .u64 y.toNat):=(H2.out.ext HX.out (fun f=>f)).cell hyj
   clear he
   have hset:=HW.out.set (i:=j) (by rw [zx3 HL.out];exact hlt) (x &&& y)
   rw [zx5 HL.out hlt (by simp [W8,List.getElem?_zipWith,hxj,hyj])] at hset
   have HSET:=q8 hset
   clear hset hw
   go_wp2_with fail
   go_region
   all_goals
     go_wp2_with fail
     go_roundw
     case measure=>simp [intOf];omega
     case rel =>
      rw [zI9]
      exact ⟨j+1,by omega,by go_num,(HX.out.trans' ((q9.refl (fun k=>k=b1) wr).setCell (p:=⟨b1,j,none⟩) (fun _=>rfl) _) (fun i hi e=>by have h1:i=b1:=e;omega)).drew,WS.ext HSET.out ((q9.refl (fun _=>False) _).drew) (fun f=>f)⟩
  ·have hjl:j=l.length:=by omega
   subst hjl
   rw [zr8 HL.out] at hw
   have HW2:=q8 hw
   clear hw
   go_wp2_with fail
   go_ret
   exact ⟨b1,_,rfl,hb1,HX.out,HW2.out⟩
set_option maxRecDepth 10000 in
set_option maxHeartbeats 400000 in
theorem zx6 {w:World} {b b2:Nat} {v v2:Value} {l m:List (BitVec 64)} (h:WS w b v l) (h2:WS w b2 v2 m) (he:m.length=l.length) (hl:l.length<=1024):Calls Tryz.prog 173 #[v,v2] w fun e w'=>∃ b' v',e=.returned v'/\w.heap.size<=b'/\q9 (fun _=>False) w w'/\WS w' b' v' (zY0 l m):=by
 obtain ⟨cap,cur,rfl,hcap,kb⟩:=h.shape
 obtain ⟨cap2,cur2,rfl,hcap2,kb2⟩:=h2.shape
 have H2:=q8 h2
 have HE:=q8 he
 rw [he]
 clear h2 kb2
 have HC:=q8 (zv6 h hl)
 have H:=q8 h
 have hlen:(zY0 l m).length=l.length:=zj1 he
 have HL:=q8 hlen
 have hpos:=h.pos
 clear h kb hlen
 go_enter Tryz.func173,Tryz.ntmps173
 go_wp2_with fail
 refine HC.out.mono ?_
 rintro e w1 ⟨b1,v1,rfl,hb1,hx1,hw1⟩
 obtain ⟨c1,cur1,rfl,hc1,kb1⟩:=hw1.shape
 have HX1:=q8 hx1
 have HW1:=q8 hw1
 clear hx1 hw1 kb1 HC
 go_wp2_with fail
 go_loopw [10] (fun i wr=>∃ j:Nat,j<=l.length/\i=.int .i64 j/\q9 (fun _=>False) w wr/\WS wr b1 (.slice (some ⟨b1,0,none⟩) l.length c1) (zv7 j (zY0 l m) l)) (fun i _=>l.length - (intOf i).toNat)
 case atStart=>exact ⟨0,Nat.zero_le _,rfl,HX1.out,by rw [zr7];exact HW1.out⟩
 case round =>
  obtain ⟨j,hj,rfl,hx,hw⟩:=hrel
  have HX:=q8 hx
  have HW:=q8 hw
  clear hx
  by_cases hlt:j < l.length
  ·obtain ⟨x,hxj⟩:∃ x,l[j]?=some x:=⟨_,List.getElem?_eq_getElem hlt⟩
   have c0:wr.cell? ⟨b1,j,none⟩=some (.int .u64 x.toNat):=hw.cell ((zx4 HL.out hlt).trans hxj)
   have f0:wr.frozen? ⟨b1,j,none⟩=false:=by
    obtain ⟨_,cur9,_,_,kb9⟩:=hw.shape
    exact Q0 kb9 j
   obtain ⟨y,hyj⟩:∃ y,m[j]?=some y:=⟨_,List.getElem?_eq_getElem (by rw [HE.out];exact hlt)⟩
   have d0:wr.cell? ⟨b2,j,none⟩=some (.int .u64 y.toNat):=(H2.out.ext HX.out (fun f=>f)).cell hyj
   clear he
   have hset:=HW.out.set (i:=j) (by rw [zx3 HL.out];exact hlt) (x ||| y)
   rw [zx5 HL.out hlt (by simp [zY0,List.getElem?_zipWith,hxj,hyj])] at hset
   have HSET:=q8 hset
   clear hset hw
   go_wp2_with fail
   go_region
   all_goals
     go_wp2_with fail
     go_roundw
     case measure=>simp [intOf];omega
     case rel =>
      rw [zF5]
      exact ⟨j+1,by omega,by go_num,(HX.out.trans' ((q9.refl (fun k=>k=b1) wr).setCell (p:=⟨b1,j,none⟩) (fun _=>rfl) _) (fun i hi e=>by have h1:i=b1:=e;omega)).drew,WS.ext HSET.out ((q9.refl (fun _=>False) _).drew) (fun f=>f)⟩
  ·have hjl:j=l.length:=by omega
   subst hjl
   rw [zr8 HL.out] at hw
   have HW2:=q8 hw
   clear hw
   go_wp2_with fail
   go_ret
   exact ⟨b1,_,rfl,hb1,HX.out,HW2.out⟩
def Y2 (w:World):Prop:=w.heap[1]?=some (.cells #[.int .u64 0xAAAAAAAAAAAAAAAA,.int .u64 0xCCCCCCCCCCCCCCCC,.int .u64 0xF0F0F0F0F0F0F0F0,.int .u64 0xFF00FF00FF00FF00,.int .u64 0xFFFF0000FFFF0000,.int .u64 0xFFFFFFFF00000000] 336)
theorem jp7 {n:Nat} (h:n < 9223372036854775808):bits .and .i64 (n:Int) 1=((n % 2:Nat):Int):=by
 have h1:BitVec.ofInt 64 (n:Int)=BitVec.ofNat 64 n:=rfl
 show IntKind.i64.wrap ((BitVec.ofInt 64 (n:Int) &&& BitVec.ofInt 64 1).toNat:Int)=_
 rw [h1,BitVec.toNat_and,BitVec.toNat_ofNat,Nat.mod_eq_of_lt (by omega),show (BitVec.ofInt 64 1).toNat=2 ^ 1 - 1 from rfl,Nat.and_two_pow_sub_one_eq_mod]
 have:n % 2 ^ 1 < 2:=Nat.mod_lt _ (by decide)
 simp only [IntKind.wrap,IntKind.signed,IntKind.bits]
 simp
 omega
theorem qW1 {i k:Nat} (h:i < 1024):bits .and .i64 ((i:Int) / 2 ^ k) 1=(if i.testBit k=true then 1 else 0:Int):=by
 have h1:((i:Int) / 2 ^ k)=((i / 2 ^ k:Nat):Int):=by simp
 have h2:i / 2 ^ k<=i:=Nat.div_le_self _ _
 rw [h1,jp7 (by omega),Nat.testBit_eq_decide_div_mod_eq]
 by_cases h3:i / 2 ^ k % 2=1
 ·simp [h3]
 ·have h4:i / 2 ^ k % 2=0:=by omega
  simp [h4]
set_option maxHeartbeats 400000 in
theorem zD7 {w:World} (i a:Nat) (hi:i < 1024) (ha:a < 16) (hp:Y2 w):Calls Tryz.prog 171 #[.int .i64 i,.int .i64 a] w fun e w'=>e=.returned (u64 (pat i a))/\w' = w:=by
 by_cases h6:a < 6
 ·have hc:a=0\/a=1\/a=2\/a=3\/a=4\/a=5:=by omega
  have c0:=z6 hp 0
  have c1:=z6 hp 1
  have c2:=z6 hp 2
  have c3:=z6 hp 3
  have c4:=z6 hp 4
  have c5:=z6 hp 5
  clear hp h6 ha
  rcases hc with rfl | rfl | rfl | rfl | rfl | rfl
  all_goals
   go_enter Tryz.func171,Tryz.ntmps171
   go_wp2_with fail
   go_ret
   exact ⟨rfl,rfl⟩
 ·have hb:=qW1 (k:=a - 6) hi
  have h6':6<=a:=by omega
  clear hp h6
  cases ht:i.testBit (a - 6) with
  | true =>
   rw [ht,if_pos rfl] at hb
   have HV:Hid (pat i a=BitVec.allOnes 64):=by show _=_;unfold pat;rw [if_neg (by omega),if_pos ht]
   clear ht
   go_enter Tryz.func171,Tryz.ntmps171
   go_wp2_with fail
   go_ret
   exact ⟨by rw [HV.out];rfl,rfl⟩
  | false =>
   rw [ht,if_neg (by decide)] at hb
   have HV:Hid (pat i a=0):=by show _=_;unfold pat;rw [if_neg (by omega),if_neg (by rw [ht];decide)]
   clear ht
   go_enter Tryz.func171,Tryz.ntmps171
   go_wp2_with fail
   go_ret
   exact ⟨by rw [HV.out];rfl,rfl⟩
theorem Y2.ext {S:Nat->Prop} {w w':World} (h:Y2 w) (hx:q9 S w w') (hS:¬S 1):Y2 w':=(hx.block _ (z8 h) hS).trans h
theorem qA7 {k a j:Nat} (h:j < k):(X1 k a true)[j]?=some (pat j a):=by
 simp [X1,List.getElem?_map,List.getElem?_range h]
theorem qA8 (k a:Nat):V9 (X1 k a true)=X1 k a false:=by
 simp [V9,X1]
set_option maxRecDepth 10000 in
set_option maxHeartbeats 400000 in
theorem zP8 {w:World} (n a:Nat) (yes:Bool) (hn:n<=16) (ha:a < 16) (hp:Y2 w):Calls Tryz.prog 127 #[.int .i64 n,.int .i64 a,.bool yes] w fun e w'=>∃ b' v',e=.returned v'/\w.heap.size<=b'/\q9 (fun _=>False) w w'/\WS w' b' v' (X1 (2 ^ (n - 6)) a yes):=by
 have hk:2 ^ (n - 6)<=1024:=Nat.pow_le_pow_right (n:=2) (by decide) (by omega:n - 6<=10)
 have HC:=q8 (zx2 (w:=w) n hn)
 have HP:=q8 hp
 obtain ⟨k,hkk⟩:∃ k,2 ^ (n - 6)=k:=⟨_,rfl⟩
 rw [hkk] at HC hk
 rw [hkk]
 clear hkk hp
 go_enter Tryz.func127,Tryz.ntmps127
 go_wp2_with fail
 refine HC.out.mono ?_
 rintro e w1 ⟨b1,v1,rfl,hb1,hx1,hw1⟩
 obtain ⟨c1,cur1,hv1,hc1,kb1⟩:=hw1.shape
 rw [U1] at hv1 hc1
 subst hv1
 have HX1:=q8 hx1
 have HW1:=q8 hw1
 have HL:Hid ((X1 k a true).length=(ze3 k).length):=by show _=_;rw [O7,U1]
 clear hx1 hw1 kb1 HC
 go_wp2_with fail
 go_loopw [13] (fun i wr=>∃ j:Nat,j<=k/\i=.int .i64 j/\q9 (fun _=>False) w wr/\WS wr b1 (.slice (some ⟨b1,0,none⟩) k c1) (zv7 j (X1 k a true) (ze3 k))) (fun i _=>k - (intOf i).toNat)
 case atStart=>exact ⟨0,Nat.zero_le _,rfl,HX1.out,by rw [zr7];exact HW1.out⟩
 case round =>
  obtain ⟨j,hj,rfl,hx,hw⟩:=hrel
  have HX:=q8 hx
  have HW:=q8 hw
  clear hx
  by_cases hlt:j < k
  ·have hlt2:j < (ze3 k).length:=by rw [U1];exact hlt
   have c0:wr.cell? ⟨b1,j,none⟩=some (.int .u64 0):=hw.cell (x:=0) ((zx4 HL.out hlt2).trans (by simp [ze3,hlt]))
   have f0:wr.frozen? ⟨b1,j,none⟩=false:=by
    obtain ⟨_,cur9,_,_,kb9⟩:=hw.shape
    exact Q0 kb9 j
   have hset:=HW.out.set (i:=j) (by rw [zx3 HL.out];exact hlt2) (pat j a)
   rw [zx5 HL.out hlt2 (qA7 hlt)] at hset
   have HSET:=q8 hset
   have HCP:=q8 (zD7 j a (by omega) ha (HP.out.ext HX.out (fun f=>f)))
   clear hset hw hlt2
   go_wp2_with (go_at_call 171;refine HCP.out.mono ?_;rintro e w2 ⟨rfl,rfl⟩;unfold u64)
   go_roundw
   case measure=>simp [intOf];omega
   case rel=>exact ⟨j+1,by omega,by go_num,HX.out.trans' ((q9.refl (fun k=>k=b1) w2).setCell (p:=⟨b1,j,none⟩) (fun _=>rfl) _) (fun i hi e=>by have h1:i=b1:=e;omega),HSET.out⟩
  ·have hjl:j=(ze3 k).length:=by rw [U1];omega
   rw [hjl,zr8 HL.out] at hw
   have HW2:=q8 hw
   have hjk:j=k:=by omega
   have hl2:(X1 k a true).length<=1024:=by rw [O7];exact hk
   have HCN:=q8 (zh5 HW2.out hl2)
   subst hjk
   clear hw hjl hl2
   cases yes with
   | true =>
    go_wp2_with fail
    go_ret
    exact ⟨b1,_,rfl,hb1,HX.out,HW2.out⟩
   | false =>
    go_wp2_with fail
    refine HCN.out.mono ?_
    rintro e w2 ⟨b2,v2,rfl,hb2,hx2,hw2⟩
    have HX2:=q8 hx2
    have HW3:=q8 hw2
    clear hx2 hw2
    go_wp2_with fail
    go_ret
    exact ⟨b2,v2,rfl,by have:=HX.out.size;omega,HX.out.trans HX2.out,by rw [<- qA8];exact HW3.out⟩
def zx7 (k:Nat):List (BitVec 64):=V9 (ze3 k)
theorem zP9 {k n:Nat} (h:n < 64 * k):Z8 (zx7 k) n=true:=by
 unfold zx7
 rw [zf4 (by rw [U1];exact h),zo0];rfl
theorem zQ0 (k:Nat):(zx7 k).length=k:=by unfold zx7;rw [H7,U1]
set_option maxHeartbeats 400000 in
theorem zV6 {w:World} (n:Nat) (hn:n<=16):Calls Tryz.prog 90 #[.int .i64 n] w fun e w'=>∃ b' v',e=.returned v'/\w.heap.size<=b'/\q9 (fun _=>False) w w'/\WS w' b' v' (zx7 (2 ^ (n - 6))):=by
 have hk:2 ^ (n - 6)<=1024:=Nat.pow_le_pow_right (n:=2) (by decide) (by omega:n - 6<=10)
 have HC:=q8 (zx2 (w:=w) n hn)
 go_enter Tryz.func90,Tryz.ntmps90
 go_wp2_with fail
 refine HC.out.mono ?_
 rintro e w1 ⟨b1,v1,rfl,hb1,hx1,hw1⟩
 have HX1:=q8 hx1
 have HC2:=q8 (zh5 hw1 (by rw [U1];exact hk))
 clear hx1 hw1 HC hk
 go_wp2_with fail
 refine HC2.out.mono ?_
 rintro e w2 ⟨b2,v2,rfl,hb2,hx2,hw2⟩
 have HX2:=q8 hx2
 have HW2:=q8 hw2
 clear hx2 hw2 HC2
 go_wp2_with fail
 go_ret
 exact ⟨b2,v2,rfl,by have:=HX1.out.size;omega,HX1.out.trans HX2.out,HW2.out⟩
set_option maxHeartbeats 400000 in
theorem qK9 {w:World} (x:BitVec 64):Calls Tryz.prog 130 #[u64 x] w fun e w'=>e=.returned (.bool (!decide (x=0)))/\w' = w:=by
 unfold u64
 by_cases h:x=0
 ·have h1:((x.toNat:Int) != 0)=false:=by rw [h];rfl
  go_enter Tryz.func130,Tryz.ntmps130
  go_wp2_with fail
  go_ret
  exact ⟨by rw [decide_eq_true h];rfl,rfl⟩
 ·have h1:((x.toNat:Int) != 0)=true:=by
   have h0:x.toNat ≠ 0:=fun e=>h ((qu3 x).1 e)
   simp;omega
  have HD:Hid (decide (x=0)=false):=decide_eq_false h
  clear h
  go_enter Tryz.func130,Tryz.ntmps130
  go_wp2_with fail
  go_ret
  exact ⟨by rw [HD.out];rfl,rfl⟩
set_option maxRecDepth 10000 in
set_option maxHeartbeats 400000 in
theorem qm2 {w:World} {b:Nat} {v:Value} {l:List (BitVec 64)} (h:WS w b v l) (hl:l.length<=1024):Calls Tryz.prog 174 #[v,.func (.func 130) #[] #[]] w fun e w'=>w' = w/\((e=.returned (.int .i64 (-1))/\∀ x∈l,x=0)\/∃ k:Nat,e=.returned (.int .i64 k)/\∃ x∈l,x ≠ 0):=by
 obtain ⟨cap,cur,rfl,hcap,kb⟩:=h.shape
 have H:=q8 h
 clear h kb
 go_enter Tryz.func174,Tryz.ntmps174
 go_wp2_with fail
 go_loopw [8] (fun i wr=>∃ j:Nat,j<=l.length/\i=.int .i64 j/\wr=w/\∀ x∈l.take j,x=0) (fun i _=>l.length - (intOf i).toNat)
 case atStart=>exact ⟨0,Nat.zero_le _,rfl,rfl,by simp⟩
 case round =>
  obtain ⟨j,hj,rfl,rfl,hz⟩:=hrel
  have HZ:=q8 hz
  clear hz
  by_cases hlt:j < l.length
  ·obtain ⟨x,hxj⟩:∃ x,l[j]?=some x:=⟨_,List.getElem?_eq_getElem hlt⟩
   have c0:=H.out.cell hxj
   have HXJ:=q8 hxj
   clear hxj
   by_cases hx:x=0
   ·have HX:=q8 hx
    clear hx
    go_wp2_with (first | (go_at_call 130;refine (qK9 x).mono ?_;rintro e w2 ⟨rfl,rfl⟩;rw [decide_eq_true HX.out]) | fail)
    go_roundw
    case measure=>simp [intOf];omega
    case rel =>
     refine ⟨j+1,by omega,by go_num,by simp,fun y hy=>?_⟩
     rw [List.take_add_one,HXJ.out] at hy
     rcases List.mem_append.1 hy with e | e
     ·exact HZ.out y e
     ·simp at e;rw [e];exact HX.out
   ·have HX:=q8 hx
    clear hx
    go_wp2_with (first | (go_at_call 130;refine (qK9 x).mono ?_;rintro e w2 ⟨rfl,rfl⟩;rw [decide_eq_false HX.out]) | fail)
    go_ret
    exact ⟨rfl,.inr ⟨j,rfl,x,List.mem_of_getElem? HXJ.out,HX.out⟩⟩
  ·have hjl:j=l.length:=by omega
   subst hjl
   go_wp2_with fail
   go_ret
   exact ⟨rfl,.inl ⟨rfl,fun x hx=>HZ.out x (by rw [List.take_length];exact hx)⟩⟩
set_option maxHeartbeats 400000 in
theorem zO2 {w:World} {b:Nat} {v:Value} {l:List (BitVec 64)} (h:WS w b v l) (hl:l.length<=1024):Calls Tryz.prog 129 #[v,.func (.func 130) #[] #[]] w fun e w'=>w' = w/\∃ r,e=.returned (.bool r)/\(r=false↔∀ x∈l,x=0):=by
 have HC:=q8 (qm2 h hl)
 clear h
 go_enter Tryz.func129,Tryz.ntmps129
 go_wp2_with fail
 refine HC.out.mono ?_
 rintro e w2 ⟨rfl,⟨rfl,h1⟩ | ⟨k,rfl,h1⟩⟩
 ·have H1:=q8 h1
  clear h1
  go_wp2_with fail
  go_ret
  exact ⟨rfl,false,rfl,fun _=>H1.out,fun _=>rfl⟩
 ·have H1:=q8 h1
  clear h1
  go_wp2_with fail
  go_ret
  refine ⟨rfl,true,rfl,fun e=>by simp at e,fun e=>?_⟩
  obtain ⟨x,hx,hn⟩:=H1.out
  exact absurd (e x hx) hn
set_option maxHeartbeats 400000 in
theorem zQ1 {w:World} {b:Nat} {v:Value} {l:List (BitVec 64)} (h:WS w b v l) (hl:l.length<=1024):Calls Tryz.prog 93 #[v] w fun e w'=>w' = w/\∃ r,e=.returned (.bool r)/\(r=true↔∀ n,n < 64 * l.length->Z8 l n=false):=by
 have HC:=q8 (zO2 h hl)
 clear h
 go_enter Tryz.func93,Tryz.ntmps93
 go_wp2_with fail
 refine HC.out.mono ?_
 rintro e w2 ⟨rfl,r,rfl,h1⟩
 have H1:=q8 h1
 clear h1
 go_wp2_with fail
 go_ret
 refine ⟨rfl,!r,rfl,?_⟩
 rw [<- qR4,<- H1.out]
 simp
def zJ2 (l:List (BitVec 64)) (f:Nat->BitVec 64->BitVec 64) (j:Nat):Prop:=∀ i x,i < j->l[i]?=some x->f i x=0
theorem zJ3 {l:List (BitVec 64)} {f:Nat->BitVec 64->BitVec 64} {j:Nat} {x:BitVec 64} (h:l[j]?=some x):zJ2 l f (j+1)↔zJ2 l f j/\f j x=0:=by
 constructor
 ·intro hn
  exact ⟨fun i y hi e=>hn i y (by omega) e,hn j x (by omega) h⟩
 ·rintro ⟨h1,h2⟩ i y hi e
  by_cases hij:i=j
  ·subst hij;rw [h] at e;simp at e;subst e;exact h2
  ·exact h1 i y (by omega) e
set_option maxHeartbeats 400000 in
theorem qA9 {w:World} {b:Nat} {v:Value} {l:List (BitVec 64)} (a:Nat) (h:WS w b v l) (hl:l.length<=1024) (ha:a < 16) (hp:Y2 w):Calls Tryz.prog 177 #[v,.int .i64 a] w fun e w'=>w' = w/\∃ y n:Nat,e=.returned (.tuple #[.int .i64 y,.int .i64 n])/\(y=0↔zJ2 l (fun i x=>x &&& pat i a) l.length)/\(n=0↔zJ2 l (fun i x=>x &&& ~~~pat i a) l.length):=by
 obtain ⟨cap,cur,rfl,hcap,kb⟩:=h.shape
 have H:=q8 h
 have HP:=q8 hp
 clear h kb hp
 go_enter Tryz.func177,Tryz.ntmps177
 go_wp2_with fail
 go_loopw [6,7,13] (fun yv nv i wr=>∃ j y n:Nat,j<=l.length/\i=.int .i64 j/\yv=.int .i64 y/\nv=.int .i64 n/\y<=127 * j/\n<=127 * j/\wr=w/\(y=0↔zJ2 l (fun i x=>x &&& pat i a) j)/\(n=0↔zJ2 l (fun i x=>x &&& ~~~pat i a) j)) (fun _ _ i _=>l.length - (intOf i).toNat)
 case atStart=>exact ⟨0,0,0,Nat.zero_le _,rfl,rfl,rfl,by omega,by omega,rfl,⟨fun _ i x hi=>by omega,fun _=>rfl⟩,⟨fun _ i x hi=>by omega,fun _=>rfl⟩⟩
 case round =>
  obtain ⟨j,y,n,hj,rfl,rfl,rfl,hy,hn,rfl,h1,h2⟩:=hrel
  have H1:=q8 h1
  have H2:=q8 h2
  clear h1 h2
  by_cases hlt:j < l.length
  ·obtain ⟨x,hxj⟩:∃ x,l[j]?=some x:=⟨_,List.getElem?_eq_getElem hlt⟩
   have c0:=H.out.cell hxj
   have HXJ:=q8 hxj
   unfold u64 at c0
   clear hxj
   go_wp2_with (first | (go_at_call 171;refine (zD7 j a (by omega) ha HP.out).mono ?_;rintro e w2 ⟨rfl,rfl⟩;unfold u64) | fail)
   rw [zI9]
   refine (qc4 (x &&& pat j a)).mono ?_
   rintro e w3 ⟨p,rfl,hp1,hp2,rfl⟩
   have HP1:=q8 hp1
   clear hp1
   go_wp2_with fail
   rw [zx0]
   refine (qc4 (x &&& ~~~pat j a)).mono ?_
   rintro e w4 ⟨q,rfl,hq1,hq2,rfl⟩
   have HQ1:=q8 hq1
   clear hq1
   go_wp2_with fail
   go_roundw
   case measure=>simp [intOf];omega
   case rel =>
    refine ⟨j+1,y+p,n+q,by omega,by go_num,by go_num,by go_num,by omega,by omega,by simp,?_,?_⟩
    ·rw [zJ3 HXJ.out,<- H1.out]
     have:=HP1.out
     show _↔_/\x &&& pat j a=0
     rw [<- this]
     omega
    ·rw [zJ3 HXJ.out,<- H2.out]
     have:=HQ1.out
     show _↔_/\x &&& ~~~pat j a=0
     rw [<- this]
     omega
  ·have hjl:j=l.length:=by omega
   subst hjl
   go_wp2_with fail
   go_ret2
   exact ⟨rfl,y,n,rfl,H1.out,H2.out⟩
theorem zQ2 {l:List (BitVec 64)} {a:Nat} (neg:Bool):zJ2 l (fun i x=>x &&& (if neg=true then ~~~pat i a else pat i a)) l.length↔∀ n,n < 64 * l.length->Z8 l n=true->n.testBit a=neg:=by
 constructor
 ·intro h n hn hh
  obtain ⟨x,hx,e⟩:=zw3 hn
  rw [e] at hh
  have h1:=h (n / 64) x (jf7 hn) hx
  have h2:(x &&& (if neg=true then ~~~pat (n / 64) a else pat (n / 64) a)).getLsbD (n % 64)=false:=by
   have:(x &&& (if neg=true then ~~~pat (n / 64) a else pat (n / 64) a))=0:=h1
   rw [this];simp
  have h3:=zG4 n a
  rw [BitVec.getLsbD_and,hh] at h2
  cases neg with
  | true =>
   simp only [if_true] at h2
   rw [BitVec.getLsbD_not,h3] at h2
   simpa [show n % 64 < 64 by omega] using h2
  | false =>
   simp only [Bool.false_eq_true,if_false] at h2
   rw [h3] at h2
   simpa using h2
 ·intro h i x hi hx
  show (x &&& (if neg=true then ~~~pat i a else pat i a))=0
  apply BitVec.eq_of_getLsbD_eq
  intro c hc
  have h1:=h (64 * i+c) (by omega)
  have h2:=zG4 (64 * i+c) a
  rw [zT1 (x:=x) (by rw [show (64 * i+c) / 64=i by omega];exact hx),show (64 * i+c) % 64=c by omega] at h1
  rw [show (64 * i+c) / 64=i by omega,show (64 * i+c) % 64=c by omega] at h2
  rw [BitVec.getLsbD_and]
  cases hb:x.getLsbD c with
  | false=>simp
  | true =>
   have h3:=h1 hb
   cases neg with
   | true =>
    simp only [if_true]
    rw [BitVec.getLsbD_not,h2,h3]
    simp
   | false =>
    simp only [Bool.false_eq_true,if_false]
    rw [h2,h3]
    simp
theorem zQ3 {w:World} {b:Nat} {v:Value} {l:List (BitVec 64)} (a:Nat) (h:WS w b v l) (hl:l.length<=1024) (ha:a < 16) (hp:Y2 w):Calls Tryz.prog 177 #[v,.int .i64 a] w fun e w'=>w' = w/\∃ y n:Nat,e=.returned (.tuple #[.int .i64 y,.int .i64 n])/\(y=0↔∀ x,x < 64 * l.length->Z8 l x=true->x.testBit a=false)/\(n=0↔∀ x,x < 64 * l.length->Z8 l x=true->x.testBit a=true):=by
 refine (qA9 a h hl ha hp).mono ?_
 rintro e w' ⟨h1,y,n,h2,h3,h4⟩
 refine ⟨h1,y,n,h2,?_,?_⟩
 ·rw [h3,<- zQ2 false]
  rfl
 ·rw [h4,<- zQ2 true]
  rfl
end Go.Proofs.YtegbdaffhpiacaaGreatDoor
