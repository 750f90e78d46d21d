/- The statements without the document's answer: a number's digits; The statement Chained: the call; The statements without the document's answer: raw numbers; trees in memory; The statements without the document's answer: how a tree is written; The statements without the document's answer: terms out of raw numbers; The statements without the document's answer: formulas out of raw numbers; The statements without the document's answer: what is laid of formulas of raw numbers; The statement Either: the call. -/
import Derived.Test.YtegbdaffhpiacaaGreatDoorEit45
import Derived.Test.YtegbdaffhpiacaaGreatDoorEit46
namespace Go.Proofs.YtegbdaffhpiacaaGreatDoor
open Go.RowKit Go.Maps Ar
def qM6:ByteArray:=⟨#[48,49,50,51,52,53,54,55,56,57]⟩
theorem qM7:((List.range 10).all fun n=>(qM6.extract n (n+1)).data.toList == [dig n])=true:=by decide +kernel
theorem zK4 {n:Nat} (h:n < 10):(qM6.extract n (n+1)).toList=[dig n]:=by
 have:=List.all_eq_true.1 qM7 n (List.mem_range.2 h)
 rw [ByteArray.toList_eq]
 simpa using this
theorem za4 (a b:ByteArray):(a++b).toList=a.toList++b.toList:=by
 rw [ByteArray.toList_eq,ByteArray.toList_eq,ByteArray.toList_eq,ByteArray.toList_data_append]
set_option maxRecDepth 100000 in
set_option maxHeartbeats 400000 in
theorem zD8 (f:Nat):∀ (n:Nat) (w:World),n < 10 ^ (f+1)->f<=3->Calls Tryz.prog 22 #[.int .i64 n] w fun e w'=>∃ s:ByteArray,e=.returned (.string s)/\s.toList=zu5 f n/\q9 (fun _=>False) w w':=by
 induction f with
 | zero =>
  intro n w hn _
  have HX:=q8 (q9.refl (fun _=>False) w)
  have hn':n < 10:=by simpa using hn
  have h0:¬(n:Int) < 0:=by omega
  have h10:(n:Int) < 10:=by omega
  go_enter Tryz.func22,Tryz.ntmps22
  go_wp2_with fail
  go_ret
  exact ⟨qM6.extract n (n+1),rfl,by rw [zK4 hn',zu5],HX.out⟩
 | succ f ih =>
  intro n w hn hf
  have h0:¬(n:Int) < 0:=by omega
  have hb:n < 10000:=by
   have:10 ^ (f+1+1)<=10 ^ 4:=Nat.pow_le_pow_right (by omega) (by omega)
   omega
  by_cases hs:n < 10
  ·have HX:=q8 (q9.refl (fun _=>False) w)
   have h10:(n:Int) < 10:=by omega
   clear ih
   go_enter Tryz.func22,Tryz.ntmps22
   go_wp2_with fail
   go_ret
   exact ⟨qM6.extract n (n+1),rfl,by rw [zK4 hs,zu5,if_pos hs],HX.out⟩
  ·have h10:¬(n:Int) < 10:=by omega
   have HI:=q8 (ih (n / 10) w.drew (by rw [Nat.pow_succ] at hn;omega) (by omega))
   obtain ⟨q,hq0⟩:∃ q,n / 10=q:=⟨_,rfl⟩
   obtain ⟨r,hr0⟩:∃ r,n % 10=r:=⟨_,rfl⟩
   have hq:(n:Int) / 10=(q:Int):=by omega
   have hr:(n:Int) % 10=(r:Int):=by omega
   have hq2:(n:Int).tdiv 10=(q:Int):=by rw [Int.tdiv_eq_ediv_of_nonneg (by omega),hq]
   have hr2:(n:Int).tmod 10=(r:Int):=by rw [Int.tmod_eq_emod_of_nonneg (by omega),hr]
   have hr10:r < 10:=by omega
   have hc1:(0:Int)<=(r:Int)+1:=by omega
   have hc2:(r:Int)+1<=10:=by omega
   have hc3:(r:Int)<=(r:Int)+1:=by omega
   have hwq:IntKind.i64.wrap (q:Int)=q:=by rw [IntKind.wrap_i64];omega
   have hwr:IntKind.i64.wrap ((r:Int)+1)=(r:Int)+1:=by rw [IntKind.wrap_i64];omega
   rw [hq0] at HI
   have HQ0:=q8 hq0
   have HR0:=q8 hr0
   clear ih hq0 hr0
   go_enter Tryz.func22,Tryz.ntmps22
   go_wp2_with fail
   go_region_law (go_simp;go_wp2_with (go_at_call 22;with_reducible refine HI.out.mono ?_;rintro e w1 ⟨s,rfl,hsl,hx⟩;have hsz:s.size<=5:=(by rw [<- Z3,hsl];have:=zh5 f q;omega);have hlim:¬9223372036854775807 < s.size+(min (r+1) 10 - r):=(by omega);have HSL:=q8 hsl;have HX1:=q8 hx;clear hsl hx))
   all_goals
    go_wp2_with fail
    go_ret
    refine ⟨s++qM6.extract r (r+1),rfl,?_,((q9.refl _ w).drew).trans HX1.out⟩
    rw [za4,HSL.out,zK4 hr10,zu5,if_neg hs,HQ0.out,HR0.out]
theorem zD9 (v:Int) (w:World) (h1 : -1000<=v) (h2:v<=1000):Calls Tryz.prog 22 #[.int .i64 v] w fun e w'=>∃ s:ByteArray,e=.returned (.string s)/\s.toList=zd3 v/\q9 (fun _=>False) w w':=by
 by_cases h0:v < 0
 ·obtain ⟨n,hn⟩:∃ n:Nat,-v=n:=⟨(-v).toNat,by omega⟩
  have HI:=q8 (zD8 3 n w (by omega) (by omega))
  rw [<- hn] at HI
  have HN:=q8 hn
  clear hn
  go_enter Tryz.func22,Tryz.ntmps22
  go_wp2_with fail
  refine HI.out.mono ?_
  rintro e w1 ⟨s,rfl,hsl,hx⟩
  have hsz:s.size<=5:=by rw [<- Z3,hsl];have:=zh5 3 n;omega
  have HSL:=q8 hsl
  have HX1:=q8 hx
  clear hsl hx HI
  go_wp2_with fail
  go_ret
  refine ⟨(⟨#[45]⟩:ByteArray)++s,rfl,?_,HX1.out⟩
  rw [za4,HSL.out,zd3,if_pos h0,HN.out]
  simp [ByteArray.toList_eq]
 ·obtain ⟨n,rfl⟩:∃ n:Nat,v=n:=⟨v.toNat,by omega⟩
  refine (zD8 3 n w (by omega) (by omega)).mono ?_
  rintro e w1 ⟨s,rfl,hsl,hx⟩
  exact ⟨s,rfl,by rw [hsl,zd3,if_neg h0];rfl,hx⟩
def qn7 (w:World) (ga:Option Addr) (n:Nat) (g:Nat->Int):Prop:=∀ i,i < n->∃ b off,ga=some ⟨b,off,none⟩/\b < w.heap.size/\w.cell? ⟨b,off+i,none⟩=some (.int .i64 (g i)) /\ -9223372036854775808<=g i/\g i<=9223372036854775807
theorem qC7 (v:Int):(zd3 v).length<=5:=by
 unfold zd3
 split
 ·have:=zh5 3 (-v).toNat;simp;omega
 ·have:=zh5 3 v.toNat;omega
def zW1 (l:List UInt8):Bool:=l == [102] || l == [103] || l == [61] || l == [60] || l == [60,61] || l == zj2 || l == zn1 || l == wOr || l == [61,62] || l == zq0
inductive KT (w:World) (D:Nat->Prop):Nat->Nd->Prop
 | num {t:Nat} {v:Int} {pv:Value} (hb:w.heap[t]?=some (.cells #[.string ⟨#[35]⟩,pv,.int .i64 v] 72)) (hd:D t) (h1 : -1000<=v) (h2:v<=1000):KT w D t (.mk 4 ByteArray.empty v [])
 | name {t:Nat} {wd:ByteArray} {pv:Value} {by_:Int} (hb:w.heap[t]?=some (.cells #[.string wd,pv,.int .i64 by_] 72)) (hd:D t) (hw:wd.toList=[120]\/wd.toList=[121]\/wd.toList=[122]):KT w D t (.mk 3 wd 0 [])
 | node {t:Nat} {k:Int} {wd:ByteArray} {pv:Value} {by_:Int} {ps:List Nd} {ts:List Nat} (hb:w.heap[t]?=some (.cells #[.string wd,pv,.int .i64 by_] 72)) (hd:D t) (hk:k=1\/k=2\/k=3) (hw:zW1 wd.toList=true) (hne:ps ≠ [])
   (how:w.ownsRow 0 31 1 pv ps.length (ts.map fun a=>.pointer (some ⟨a,0,none⟩))) (hD:∀ g,pv.ownBlock=some g->D g) (hn:ts.length=ps.length) (hp:∀ (i:Nat) (a:Nat) (p:Nd),ts[i]?=some a->ps[i]?=some p->KT w D a p):KT w D t (.mk k wd 0 ps)
 | le {t:Nat} {wd:ByteArray} {pv:Value} {v:Int} {ps:List Nd} {ts:List Nat} (hb:w.heap[t]?=some (.cells #[.string wd,pv,.int .i64 v] 72)) (hd:D t) (hw:wd.toList=wLe) (h1 : -1000<=v) (h2:v<=1000) (hne:ps ≠ [])
   (how:w.ownsRow 0 31 1 pv ps.length (ts.map fun a=>.pointer (some ⟨a,0,none⟩))) (hD:∀ g,pv.ownBlock=some g->D g) (hn:ts.length=ps.length) (hp:∀ (i:Nat) (a:Nat) (p:Nd),ts[i]?=some a->ps[i]?=some p->KT w D a p):KT w D t (.mk 2 wd 0 (ps++[.mk 5 ByteArray.empty v []]))
theorem KT.ext {S D:Nat->Prop} {w w':World} {t:Nat} {nd:Nd} (h:KT w D t nd) (hx:q9 S w w') (hS:∀ k,k < w.heap.size->D k->¬S k):KT w' D t nd:=by
 induction h with
 | num hb hd h1 h2=>exact .num ((hx.block _ (z8 hb) (hS _ (z8 hb) hd)).trans hb) hd h1 h2
 | name hb hd hw=>exact .name ((hx.block _ (z8 hb) (hS _ (z8 hb) hd)).trans hb) hd hw
 | node hb hd hk hw hne how hD hn hp ih=>exact .node ((hx.block _ (z8 hb) (hS _ (z8 hb) hd)).trans hb) hd hk hw hne (z7 how hx (fun k hk=>hS k (how.lt k hk).2 (hD k hk))) hD hn ih
 | le hb hd hw h1 h2 hne how hD hn hp ih=>exact .le ((hx.block _ (z8 hb) (hS _ (z8 hb) hd)).trans hb) hd hw h1 h2 hne (z7 how hx (fun k hk=>hS k (how.lt k hk).2 (hD k hk))) hD hn ih
theorem KT.mono {D D':Nat->Prop} {w:World} {t:Nat} {nd:Nd} (h:KT w D t nd) (hD':∀ k,k < w.heap.size->D k->D' k):KT w D' t nd:=by
 induction h with
 | num hb hd h1 h2=>exact .num hb (hD' _ (z8 hb) hd) h1 h2
 | name hb hd hw=>exact .name hb (hD' _ (z8 hb) hd) hw
 | node hb hd hk hw hne how hD hn hp ih=>exact .node hb (hD' _ (z8 hb) hd) hk hw hne how (fun g hg=>hD' g (how.lt g hg).2 (hD g hg)) hn ih
 | le hb hd hw h1 h2 hne how hD hn hp ih=>exact .le hb (hD' _ (z8 hb) hd) hw h1 h2 hne how (fun g hg=>hD' g (how.lt g hg).2 (hD g hg)) hn ih
structure RW (w:World) (rb:Nat) (ga:Option Addr) (n cap k:Nat) (g:Nat->Int):Prop where
 blk:w.heap[rb]?=some (.cells #[.slice ga n cap,.int .i64 k] 30)
 few:k<=n
 gaps:qn7 w ga n g
 off:∀ b off,0 < n->ga=some ⟨b,off,none⟩->¬b=rb
theorem qn7.ext {S:Nat->Prop} {w w':World} {ga:Option Addr} {n:Nat} {g:Nat->Int} (h:qn7 w ga n g) (hx:q9 S w w') (hS:∀ b off,0 < n->ga=some ⟨b,off,none⟩->¬S b):qn7 w' ga n g:=by
 intro i hi
 obtain ⟨b,off,e,hb,hc,h1,h2⟩:=h i hi
 exact ⟨b,off,e,Nat.lt_of_lt_of_le hb hx.size,(hx.cell (p:=⟨b,off+i,none⟩) hb (hS b off (by omega) e)).trans hc,h1,h2⟩
theorem RW.ext {S:Nat->Prop} {w w':World} {rb:Nat} {ga:Option Addr} {n cap k:Nat} {g:Nat->Int} (h:RW w rb ga n cap k g) (hx:q9 S w w') (h1:¬S rb) (hS:∀ b off,0 < n->ga=some ⟨b,off,none⟩->¬S b):RW w' rb ga n cap k g :=
 ⟨(hx.block _ (z8 h.blk) h1).trans h.blk,h.few,h.gaps.ext hx hS,h.off⟩
set_option maxHeartbeats 400000 in
theorem zh4 {w:World} {rb:Nat} {ga:Option Addr} {n cap k:Nat} {g:Nat->Int} (h:RW w rb ga n cap k g) (hn:n<=maxLen) (m:Int) (hm:0 < m/\m<=100) :
  Calls Tryz.prog 26 #[.pointer (some ⟨rb,0,none⟩),.int .i64 m] w fun e w'=>∃ (v:Int) (k':Nat),e=.returned (.int .i64 v)/\0<=v/\v < m/\RW w' rb ga n cap k' g/\q9 (fun i=>i=rb) w w':=by
 have c0:=z6 h.blk 0
 have c1:=z6 h.blk 1
 have f1:=j9 h.blk 1
 have hkn:=h.few
 have H:=q8 h
 unfold maxLen at hn
 have HX:=q8 (q9.refl (fun i=>i=rb) w)
 by_cases hk:k < n
 ·obtain ⟨b,off,rfl,hbl,hc,hg1,hg2⟩:=h.gaps k hk
  have hne:¬b=rb:=h.off b off (by omega) rfl
  have hlt:(k:Int) < (n:Int):=by omega
  clear h
  go_enter Tryz.func26,Tryz.ntmps26
  go_wp2_with fail
  go_region
  all_goals
   go_wp2_with fail
   obtain ⟨W,hW⟩:∃ W,(w.setCell ⟨rb,1,none⟩ (.int .i64 ((k:Int)+1))).drew=W:=⟨_,rfl⟩
   have hxs:q9 (fun i=>i=rb) w W:=by rw [<- hW];exact ((q9.refl (fun i=>i=rb) w).setCell (p:=⟨rb,1,none⟩) (fun _=>rfl) _).drew
   have kb2:W.heap[rb]?=some (.cells #[.slice (some ⟨b,off,none⟩) n cap,.int .i64 ((k:Int)+1)] 30):=by rw [<- hW];exact X9 H.out.blk 1 _
   have hc2:W.cell? ⟨b,off+k,none⟩=some (.int .i64 (g k)):=(hxs.cell (p:=⟨b,off+k,none⟩) hbl hne).trans hc
   have d0:=z6 kb2 0
   have d1:=z6 kb2 1
   have hwk:IntKind.i64.wrap ((k:Int)+1 - 1)=(k:Int):=by rw [IntKind.wrap_i64];omega
   have hwk2:(k:Int)+1 - 1=(k:Int):=by omega
   have hwk3:IntKind.i64.wrap (k:Int)=(k:Int):=by rw [IntKind.wrap_i64];omega
   have HPK:=q8 (qO0 (w:=W.drew) (g k) m ⟨hg1,hg2⟩ ⟨hm.1,by omega⟩)
   have HXS:=q8 hxs
   have KB2:=q8 kb2
   rw [hW]
   clear hW hxs kb2 c0 c1 f1 hc
   go_region_law (go_simp;go_wp2_with (go_at_call 21;refine HPK.out.mono ?_;rintro e w2 ⟨rfl,hx2⟩;have HX2:=q8 hx2;clear hx2))
   all_goals
    go_wp2_with fail
    go_ret
    have hp:=qN8 (g k) m hm.1
    have hx2:q9 (fun _=>False) W w2:=((q9.refl (fun _=>False) W).drew).trans HX2.out
    have hx:=HXS.out.trans (hx2.mono (fun _ _ f=>f.elim))
    refine ⟨_,k+1,rfl,hp.1,hp.2,⟨?_,by omega,H.out.gaps.ext hx (fun b' o' e1 e=>H.out.off b' o' e1 e),H.out.off⟩,hx⟩
    exact (hx2.block _ (z8 KB2.out) (fun f=>f)).trans KB2.out
 ·have hge:¬(k:Int) < (n:Int):=by omega
  have hge2:(n:Int)<=(k:Int):=by omega
  clear h
  go_enter Tryz.func26,Tryz.ntmps26
  go_wp2_with fail
  go_region
  all_goals
   go_wp2_with fail
   go_ret
   exact ⟨0,k,rfl,Int.le_refl _,hm.1,H.out.ext ((q9.refl (fun _=>False) w).drew) (fun f=>f) (fun _ _ _ _ f=>f),HX.out.drew⟩
theorem zv9 {l:List UInt8} (h:zW1 l=true) (b:List UInt8) (hb:zW1 b=false):(l == b)=false:=by
 rw [beq_eq_false_iff_ne]
 rintro rfl
 rw [hb] at h
 exact absurd h (by decide)
def WrT (w:World) (t:Nat) (nd:Nd):Prop:=∀ w',q9 (fun _=>False) w w'->(Z1 nd).length<=4000->Calls Tryz.prog 16 #[.pointer (some ⟨t,0,none⟩)] w' fun e w2=>∃ s:ByteArray,e=.returned (.string s)/\s.toList=Z1 nd/\q9 (fun _=>False) w' w2
set_option maxHeartbeats 400000 in
theorem ji5 {w:World} {t:Nat} {v:Int} {pv:Value} (hb:w.heap[t]?=some (.cells #[.string ⟨#[35]⟩,pv,.int .i64 v] 72)) (h1 : -1000<=v) (h2:v<=1000):WrT w t (.mk 4 ByteArray.empty v []):=by
 intro w' hx _
 have kb:=(hx.block _ (z8 hb) (fun f=>f)).trans hb
 have c0:=z6 kb 0
 have c2:=z6 kb 2
 have HD:=q8 (zD9 v w' h1 h2)
 clear hx hb kb
 go_enter Tryz.func16,Tryz.ntmps16
 go_wp2_with fail
 refine HD.out.mono ?_
 rintro e w1 ⟨s,rfl,hsl,hx⟩
 have HSL:=q8 hsl
 have HX1:=q8 hx
 clear hsl hx
 all_goals
  go_wp2_with fail
  go_ret
  exact ⟨s,rfl,by rw [HSL.out,Z1,if_neg (by decide),V9,if_pos (by decide)],HX1.out⟩
set_option maxHeartbeats 400000 in
theorem qY1 {w:World} {t:Nat} {wd:ByteArray} {pv:Value} {by_:Int} (hb:w.heap[t]?=some (.cells #[.string wd,pv,.int .i64 by_] 72)) (hw:wd.toList=[120]\/wd.toList=[121]\/wd.toList=[122]):WrT w t (.mk 3 wd 0 []):=by
 intro w' hx _
 have kb:=(hx.block _ (z8 hb) (fun f=>f)).trans hb
 have c0:=z6 kb 0
 have HX:=q8 (q9.refl (fun _=>False) w')
 clear hx hb kb
 have e0:Z1 (.mk 3 wd 0 [])=wd.toList:=by rw [Z1,if_neg (by decide),V9,if_neg (by decide)]
 have E0:=q8 e0
 have hw':wd=⟨#[120]⟩\/wd=⟨#[121]⟩\/wd=⟨#[122]⟩:=by
  rcases hw with e | e | e
  ·exact .inl (k8 (by rw [e,ByteArray.toList_eq]))
  ·exact .inr (.inl (k8 (by rw [e,ByteArray.toList_eq])))
  ·exact .inr (.inr (k8 (by rw [e,ByteArray.toList_eq])))
 clear hw e0
 rcases hw' with rfl | rfl | rfl
 all_goals
  go_enter Tryz.func16,Tryz.ntmps16
  go_wp2_with fail
  go_ret
  exact ⟨_,rfl,E0.out.symm,HX.out⟩
theorem zK5:∀ (ps:List Nd) (p:Nd),Q0 (ps++[p])=Q0 ps++32 :: Z1 p
 | [],p=>by simp [Q0]
 | q :: ps,p=>by rw [List.cons_append,Q0,Q0,zK5 ps p];simp
def zg6 (wd:ByteArray) (ps:List Nd) (i:Nat):List UInt8:=40 :: wd.toList++Q0 (ps.take i)
theorem qC8 (wd:ByteArray) (ps:List Nd) (i:Nat):(zg6 wd ps i).length<=1+wd.size+(Q0 ps).length:=by
 have:=qj1 ps i
 rw [<- Z3]
 simp [zg6]
 omega
theorem qn8 (wd:ByteArray) (ps:List Nd):((⟨#[40]⟩:ByteArray)++wd).toList=zg6 wd ps 0:=by
 rw [za4]
 simp [zg6,Q0,ByteArray.toList_eq]
theorem qn9 {wd:ByteArray} {ps:List Nd} {i:Nat} {p:Nd} {s u:ByteArray} (hp:ps[i]?=some p) (hs:s.toList=zg6 wd ps i) (hu:u.toList=Z1 p):(s++(⟨#[32]⟩:ByteArray)++u).toList=zg6 wd ps (i+1):=by
 rw [za4,za4,hs,hu,zg6,zg6,zN7 hp]
 simp [ByteArray.toList_eq]
theorem qo0 {w:World} {e size n:Nat} {v:Value} {xs:List Value} (h:w.ownsRow 0 e size v n xs):∃ a cap,v=.slice a n cap:=by
 rcases h.2 with ⟨e,e0⟩ | ⟨g,cap,cur,hv,_⟩
 ·exact ⟨none,0,by rw [e,e0]⟩
 ·exact ⟨_,cap,hv⟩
def leT (wd:ByteArray) (v:Int):List UInt8:=if wd.toList=wLe then 32 :: zd3 v else []
theorem qM8 {ps:List Nd} {i:Nat} {p:Nd} (h:ps[i]?=some p):(Z1 p).length<=(Q0 ps).length:=by
 have:=qj1 ps (i+1)
 rw [zN7 h] at this
 simp at this
 omega
set_option maxHeartbeats 400000 in
theorem qv4 {w w':World} {t:Nat} {wd:ByteArray} {pv:Value} {v:Int} {ps:List Nd} {ts:List Nat} (hb:w.heap[t]?=some (.cells #[.string wd,pv,.int .i64 v] 72)) (hw:zW1 wd.toList=true\/wd.toList=wLe /\ -1000<=v/\v<=1000)
  (how:w.ownsRow 0 31 1 pv ps.length (ts.map fun a=>.pointer (some ⟨a,0,none⟩))) (hn:ts.length=ps.length) (hp:∀ (i:Nat) (a:Nat) (p:Nd),ts[i]?=some a->ps[i]?=some p->WrT w a p) (hx:q9 (fun _=>False) w w') (hlen:wd.size+(Q0 ps).length<=4000) :
  Calls Tryz.prog 16 #[.pointer (some ⟨t,0,none⟩)] w' fun e w2=>∃ s:ByteArray,e=.returned (.string s)/\s.toList=zg6 wd ps ps.length++leT wd v++[41]/\q9 (fun _=>False) w' w2:=by
 have kb:=(hx.block _ (z8 hb) (fun f=>f)).trans hb
 have c0:=z6 kb 0
 have c1:=z6 kb 1
 have c2:=z6 kb 2
 have q:(wd.toList == [35])=false/\(wd.toList == [120])=false/\(wd.toList == [121])=false/\(wd.toList == [122])=false/\(wd.toList == [116,114,117,101])=false/\(wd.toList == [102,97,108,115,101])=false:=by
  rcases hw with hw | ⟨hw,_⟩
  ·exact ⟨zv9 hw _ rfl,zv9 hw _ rfl,zv9 hw _ rfl,zv9 hw _ rfl,zv9 hw _ rfl,zv9 hw _ rfl⟩
  ·rw [hw];decide
 obtain ⟨q1,q2,q3,q4,q5,q6⟩:=q
 obtain ⟨a,cap,rfl⟩:=qo0 how
 have hl3:=qH8 ps
 have HX:=q8 hx
 have HOW:=q8 how
 have HPP:=q8 hp
 have HHN:=q8 hn
 have HHW:=q8 hw
 have KB:=q8 kb
 clear hp hx how hb kb hw hn
 go_enter Tryz.func16,Tryz.ntmps16
 go_wp2_with fail
 go_loopw [4,5] (fun vs vi wr=>∃ (j:Nat) (s:ByteArray),j<=ps.length/\vs=.string s/\vi=.int .i64 j/\s.toList=zg6 wd ps j/\q9 (fun _=>False) w' wr) (fun _ vi _=>ps.length - (intOf vi).toNat)
 case atStart=>exact ⟨0,_,Nat.zero_le _,rfl,rfl,qn8 wd ps,q9.refl _ _⟩
 case round =>
  clear c0 c1 c2
  obtain ⟨j,s,hj,rfl,rfl,hs,hxr⟩:=hrel
  have kb:=(hxr.block _ (z8 KB.out) (fun f=>f)).trans KB.out
  have c0:=z6 kb 0
  have c1:=z6 kb 1
  have c2:=z6 kb 2
  have hsz:s.size<=1+wd.size+(Q0 ps).length:=by rw [<- Z3,hs];exact qC8 _ _ _
  have HS:=q8 hs
  have HXR:=q8 hxr
  clear kb hs hxr
  have l1:¬9223372036854775807 < s.size+1:=by omega
  by_cases hlt:j < ps.length
  ·obtain ⟨p,hp⟩:∃ p,ps[j]?=some p:=⟨_,List.getElem?_eq_getElem hlt⟩
   obtain ⟨ta,hta⟩:∃ ta,ts[j]?=some ta:=⟨_,List.getElem?_eq_getElem (by rw [HHN.out];exact hlt)⟩
   obtain ⟨g,hsa,hgl⟩:∃ g,a=some ⟨g,0,none⟩/\g < w.heap.size:=by
    rcases HOW.out.2 with ⟨_,e⟩ | ⟨g,cap,cur,hv,_,hg,_⟩
    ·omega
    ·simp at hv;exact ⟨g,hv.1,z8 hg⟩
   subst hsa
   have hlI:(j:Int) < (ps.length:Int):=by omega
   have e0:wr.cell? ⟨g,j,none⟩=some (.pointer (some ⟨ta,0,none⟩)):=by
    rw [(HX.out.trans HXR.out).cell (p:=⟨g,j,none⟩) hgl (fun f=>f),HOW.out.cellAt j (by omega)]
    simp [hta]
   have hpl:=qM8 hp
   have HI:=q8 (HPP.out j ta p hta hp wr (HX.out.trans HXR.out) (by omega))
   have HP:=q8 hp
   clear hp hta
   go_wp2_with fail
   refine HI.out.mono ?_
   rintro e w3 ⟨u,rfl,hu,hx3⟩
   have hus:u.size<=(Q0 ps).length:=by rw [<- Z3,hu];exact hpl
   have l2:¬9223372036854775807 < s.size+1+u.size:=by omega
   have HU:=q8 hu
   have HX3:=q8 hx3
   clear hu hx3
   all_goals
    go_wp2_with fail
    go_roundw
    case measure=>simp [intOf];omega
    case rel=>exact ⟨j+1,_,by omega,rfl,by go_num,qn9 HP.out HS.out HU.out,HXR.out.trans HX3.out⟩
  ·have hge:¬(j:Int) < (ps.length:Int):=by omega
   obtain rfl:j=ps.length:=by omega
   rcases HHW.out with hw | ⟨hw,h1,h2⟩
   ·have q7:=zv9 hw [108,101] rfl
    have hne:¬wd.toList=wLe:=fun e=>by rw [e] at q7;exact absurd q7 (by decide)
    clear hw
    go_wp2_with fail
    go_ret
    exact ⟨_,rfl,by rw [za4,HS.out,leT,if_neg hne];simp [ByteArray.toList_eq],HXR.out⟩
   ·have q7:(wd.toList == [108,101])=true:=by rw [hw];rfl
    have HD:=q8 (zD9 v wr h1 h2)
    have HW:=q8 hw
    clear hw
    go_wp2_with fail
    refine HD.out.mono ?_
    rintro e w3 ⟨u,rfl,hu,hx3⟩
    have hus:u.size<=5:=by rw [<- Z3,hu];exact qC7 v
    have l2:¬9223372036854775807 < s.size+1+u.size:=by omega
    have l3:¬9223372036854775807 < s.size+1+u.size+1:=by omega
    have HU:=q8 hu
    have HX3:=q8 hx3
    clear hu hx3
    all_goals
     go_wp2_with fail
     go_ret
     exact ⟨_,rfl,by rw [za4,za4,za4,HS.out,HU.out,leT,if_pos HW.out];simp [ByteArray.toList_eq],HXR.out.trans HX3.out⟩
theorem zy7 {w:World} {D:Nat->Prop} {t:Nat} {nd:Nd} (h:KT w D t nd):WrT w t nd:=by
 induction h with
 | num hb hd h1 h2=>exact ji5 hb h1 h2
 | name hb hd hw=>exact qY1 hb hw
 | @node t k wd pv by_ ps ts hb hd hk hw hne how hD hn hp ih =>
  have ef:Z1 (.mk k wd 0 ps)=zg6 wd ps ps.length++leT wd by_++[41]:=by
   have hne2:¬wd.toList=wLe:=fun e=>by rw [e] at hw;exact absurd hw (by decide)
   rw [Z1,if_pos (Or.inr (Or.inr hne)),V9,if_neg (by omega),leT,if_neg hne2,zg6,List.take_length]
   simp
  intro w' hx hlen
  rw [ef] at hlen ⊢
  refine qv4 hb (.inl hw) how hn ih hx ?_
  rw [<- Z3]
  simp [zg6] at hlen
  omega
 | @le t wd pv v ps ts hb hd hw h1 h2 hne how hD hn hp ih =>
  have ef:Z1 (.mk 2 wd 0 (ps++[.mk 5 ByteArray.empty v []]))=zg6 wd ps ps.length++leT wd v++[41]:=by
   rw [Z1,if_pos (Or.inr (Or.inl rfl)),V9,if_neg (by decide),leT,if_pos hw,zg6,List.take_length,zK5,Z1,if_neg (by decide),V9,if_pos (by decide)]
   simp
  intro w' hx hlen
  rw [ef] at hlen ⊢
  refine qv4 hb (.inr ⟨hw,h1,h2⟩) how hn ih hx ?_
  rw [<- Z3]
  simp [zg6] at hlen
  omega
structure zW2 (N:List Nm):Prop where
 x:k9 N [120]=some 0
 y:k9 N [121]=some 0
 z:k9 N [122]=some 0
 f:k9 N [102]=some 1
 g:k9 N [103]=some 2
def qe3:Nat->Nat
 | 0=>2
 | d+1=>2 * qe3 d+5
theorem qe4:∀ d,2<=qe3 d
 | 0=>Nat.le_refl _
 | d+1=>by rw [qe3];omega
def TmD (N:List Nm) (d:Nat) (nd:Nd):Prop:=(∀ δ,δ+d<=30->RT N δ nd)/\(Z1 nd).length<=qe3 d
def Mk (w:World) (rb:Nat) (ga:Option Addr) (n cap:Nat) (g:Nat->Int) (R:Nd->Prop) (e:Ending) (w':World):Prop :=
 ∃ t nd k',e=.returned (.pointer (some ⟨t,0,none⟩))/\KT w' (fun i=>w.heap.size<=i) t nd/\R nd/\RW w' rb ga n cap k' g/\q9 (fun i=>i=rb) w w'
section
variable {w w1 W:World} {rb:Nat} {ga:Option Addr} {n cap k:Nat} {g:Nat->Int} {N:List Nm}
theorem zs3 (hN:zW2 N) (d:Nat) (h:RW w1 rb ga n cap k g) (hx:q9 (fun i=>i=rb) w w1) {wd:ByteArray} (hw:wd.toList=[120]\/wd.toList=[121]\/wd.toList=[122]) :
  Mk w rb ga n cap g (TmD N d) (.returned (.pointer (some ⟨w1.heap.size,0,none⟩))) (w1.alloc (.cells #[.string wd,.slice none 0 0,.int .i64 0] 72)):=by
 have ef:Z1 (.mk 3 wd 0 [])=wd.toList:=by rw [Z1,if_neg (by decide),V9,if_neg (by decide)]
 refine ⟨_,.mk 3 wd 0 [],k,rfl,.name (heap_alloc_new _ _) hx.size hw,⟨fun δ _=>.name ?_ ?_,?_⟩,h.ext ((q9.refl (fun _=>False) w1).alloc _) (fun f=>f) (fun _ _ _ _ f=>f),hx.alloc _⟩
 ·rcases hw with e | e | e <;> rw [e] <;> decide
 ·rcases hw with e | e | e <;> rw [e]
  ·exact hN.x
  ·exact hN.y
  ·exact hN.z
 ·have:=qe4 d
  rw [ef]
  rcases hw with e | e | e <;> rw [e] <;> simp <;> omega
theorem qM9 (d:Nat) (h:RW w1 rb ga n cap k g) (hx:q9 (fun i=>i=rb) w w1) {v:Int} (h1 : -2<=v) (h2:v<=2) :
  Mk w rb ga n cap g (TmD N d) (.returned (.pointer (some ⟨w1.heap.size,0,none⟩))) (w1.alloc (.cells #[.string ⟨#[35]⟩,.slice none 0 0,.int .i64 v] 72)):=by
 have ef:Z1 (.mk 4 ByteArray.empty v [])=zd3 v:=by rw [Z1,if_neg (by decide),V9,if_pos (by decide)]
 refine ⟨_,.mk 4 ByteArray.empty v [],k,rfl,.num (heap_alloc_new _ _) hx.size (by omega) (by omega),⟨fun δ _=>.num (by omega) (by omega),?_⟩,h.ext ((q9.refl (fun _=>False) w1).alloc _) (fun f=>f) (fun _ _ _ _ f=>f),hx.alloc _⟩
 have:=qe4 d
 rw [ef]
 have hv:v = -2\/v = -1\/v=0\/v=1\/v=2:=by omega
 have:(zd3 v).length<=2:=by rcases hv with rfl | rfl | rfl | rfl | rfl <;> decide
 omega
theorem qY2 {W:World} {g e:Nat} {x:Value} (h:W.heap[g]?=some (.cells #[x] e)):W.ownsRow 0 e 1 (.slice (some ⟨g,0,none⟩) 1 1) 1 [x] :=
 ⟨rfl,Or.inr ⟨g,1,#[x],rfl,Nat.zero_le _,h,Nat.le_refl _,by decide,rfl,rfl⟩⟩
theorem qv5 {W:World} {g e:Nat} {x y:Value} (h:W.heap[g]?=some (.cells #[x,y] e)):W.ownsRow 0 e 1 (.slice (some ⟨g,0,none⟩) 2 2) 2 [x,y] :=
 ⟨rfl,Or.inr ⟨g,2,#[x,y],rfl,Nat.zero_le _,h,Nat.le_refl _,by decide,rfl,rfl⟩⟩
theorem qN0 {D:Nat->Prop} {a t q:Nat} {p:Nd} {kk:Int} {wd:ByteArray} {by_:Int} (hb:W.heap[t]?=some (.cells #[.string wd,.slice (some ⟨q,0,none⟩) 1 1,.int .i64 by_] 72)) (hq:W.heap[q]?=some (.cells #[.pointer (some ⟨a,0,none⟩)] 31)) (ht:D t) (hqd:D q) (hk:kk=1\/kk=2\/kk=3) (hw:zW1 wd.toList=true) (ha:KT W D a p):KT W D t (.mk kk wd 0 [p]):=by
 refine .node (ts:=[a]) hb ht hk hw (by simp) (qY2 hq) (fun k e=>?_) rfl (fun i b r h1 h2=>?_)
 ·simp [Value.ownBlock] at e;exact e ▸ hqd
 ·match i,h1,h2 with
  | 0,h1,h2=>simp at h1 h2;subst h1 h2;exact ha
theorem qo1 {D:Nat->Prop} {a b t q:Nat} {p r:Nd} {kk:Int} {wd:ByteArray} {by_:Int} (hb:W.heap[t]?=some (.cells #[.string wd,.slice (some ⟨q,0,none⟩) 2 2,.int .i64 by_] 72)) (hq:W.heap[q]?=some (.cells #[.pointer (some ⟨a,0,none⟩),.pointer (some ⟨b,0,none⟩)] 31)) (ht:D t) (hqd:D q) (hk:kk=1\/kk=2\/kk=3) (hw:zW1 wd.toList=true) (ha:KT W D a p) (hbb:KT W D b r):KT W D t (.mk kk wd 0 [p,r]):=by
 refine .node (ts:=[a,b]) hb ht hk hw (by simp) (qv5 hq) (fun k e=>?_) rfl (fun i b r h1 h2=>?_)
 ·simp [Value.ownBlock] at e;exact e ▸ hqd
 ·match i,h1,h2 with
  | 0,h1,h2=>simp at h1 h2;subst h1 h2;exact ha
  | 1,h1,h2=>simp at h1 h2;subst h1 h2;exact hbb
theorem jm2 {D:Nat->Prop} {a b t q:Nat} {p r:Nd} {wd:ByteArray} {v:Int} (hb:W.heap[t]?=some (.cells #[.string wd,.slice (some ⟨q,0,none⟩) 2 2,.int .i64 v] 72)) (hq:W.heap[q]?=some (.cells #[.pointer (some ⟨a,0,none⟩),.pointer (some ⟨b,0,none⟩)] 31)) (ht:D t) (hqd:D q) (hw:wd.toList=wLe) (h1 : -1000<=v) (h2:v<=1000) (ha:KT W D a p) (hbb:KT W D b r):KT W D t (.mk 2 wd 0 [p,r,.mk 5 ByteArray.empty v []]):=by
 refine KT.le (ps:=[p,r]) (ts:=[a,b]) hb ht hw h1 h2 (by simp) (qv5 hq) (fun k e=>?_) rfl (fun i b r h1 h2=>?_)
 ·simp [Value.ownBlock] at e;exact e ▸ hqd
 ·match i,h1,h2 with
  | 0,h1,h2=>simp at h1 h2;subst h1 h2;exact ha
  | 1,h1,h2=>simp at h1 h2;subst h1 h2;exact hbb
theorem zW3 (kk:Int) (wd:ByteArray) (p:Nd) (hk:kk=1\/kk=2\/kk=3):(Z1 (.mk kk wd 0 [p])).length=wd.size+(Z1 p).length+3:=by
 rw [Z1,if_pos (Or.inr (Or.inr (by simp))),V9,if_neg (by omega),Q0,Q0,<- Z3]
 simp
 omega
theorem zW4 (kk:Int) (wd:ByteArray) (p r:Nd) (hk:kk=1\/kk=2\/kk=3):(Z1 (.mk kk wd 0 [p,r])).length=wd.size+(Z1 p).length+(Z1 r).length+4:=by
 rw [Z1,if_pos (Or.inr (Or.inr (by simp))),V9,if_neg (by omega),Q0,Q0,Q0,<- Z3]
 simp
 omega
theorem ji6 (wd:ByteArray) (p r:Nd) (v:Int):(Z1 (.mk 2 wd 0 [p,r,.mk 5 ByteArray.empty v []])).length=wd.size+(Z1 p).length+(Z1 r).length+(zd3 v).length+5:=by
 rw [Z1,if_pos (Or.inr (Or.inr (by simp))),V9,if_neg (by decide),Q0,Q0,Q0,Q0,Z1.eq_1 5,if_neg (by decide),V9,if_pos (by decide),<- Z3]
 simp
 omega
theorem jo7 (hN:zW2 N) {d:Nat} {p:Nd} (h:TmD N d p):TmD N (d+1) (.mk 3 ⟨#[102]⟩ 0 [p]):=by
 have e:(⟨#[102]⟩:ByteArray).toList=[102]:=by rw [ByteArray.toList_eq]
 refine ⟨fun δ hδ=>.app (by rw [e];decide) (by simp) (by rw [e];exact hN.f) (by omega) (fun q hq=>?_),?_⟩
 ·simp at hq;subst hq;exact h.1 _ (by omega)
 ·have:=h.2
  rw [zW3 _ _ _ (by omega),qe3,show (⟨#[102]⟩:ByteArray).size=1 from rfl]
  omega
theorem jo8 (hN:zW2 N) {d:Nat} {p q:Nd} (h:TmD N d p) (h2:TmD N d q):TmD N (d+1) (.mk 3 ⟨#[103]⟩ 0 [p,q]):=by
 have e:(⟨#[103]⟩:ByteArray).toList=[103]:=by rw [ByteArray.toList_eq]
 refine ⟨fun δ hδ=>.app (by rw [e];decide) (by simp) (by rw [e];exact hN.g) (by omega) (fun r hr=>?_),?_⟩
 ·simp at hr
  rcases hr with rfl | rfl
  ·exact h.1 _ (by omega)
  ·exact h2.1 _ (by omega)
 ·have:=h.2
  have:=h2.2
  rw [zW4 _ _ _ _ (by omega),qe3,show (⟨#[103]⟩:ByteArray).size=1 from rfl]
  omega
theorem jm3:((⟨#[120,121,122]⟩:ByteArray).extract 0 1).toList=[120]:=by rw [ByteArray.toList_eq];rfl
theorem jm4:((⟨#[120,121,122]⟩:ByteArray).extract 1 2).toList=[121]:=by rw [ByteArray.toList_eq];rfl
theorem jm5:((⟨#[120,121,122]⟩:ByteArray).extract 2 3).toList=[122]:=by rw [ByteArray.toList_eq];rfl
theorem qe5 (w:World) (o1 o2:Obj):((w.alloc o1).alloc o2).heap[w.heap.size]?=some o1:=by
 have h1:=heap_alloc_new w o1
 exact (((q9.refl (fun _=>False) (w.alloc o1)).alloc o2).block _ (z8 h1) (fun f=>f)).trans h1
theorem qe6 (w:World) (o1 o2:Obj):((w.alloc o1).alloc o2).heap[w.heap.size+1]?=some o2:=by
 have:=heap_alloc_new (w.alloc o1) o2
 simpa using this
theorem ji7 {R:Nd->Prop} {w2:World} {t:Nat} {nd:Nd} (kt:KT w2 (fun i=>w.heap.size<=i) t nd) (hx:q9 (fun i=>i=rb) w w2) (h2:RW w2 rb ga n cap k g) {kk:Int} {wd:ByteArray} (hk:kk=1\/kk=2\/kk=3) (hw:zW1 wd.toList=true) (hR:R (.mk kk wd 0 [nd])) :
  Mk w rb ga n cap g R (.returned (.pointer (some ⟨w2.heap.size+1,0,none⟩))) ((w2.alloc (.cells #[.pointer (some ⟨t,0,none⟩)] 31)).alloc (.cells #[.string wd,.slice (some ⟨w2.heap.size,0,none⟩) 1 1,.int .i64 0] 72)):=by
 have hs:=hx.size
 refine ⟨_,_,k,rfl,qN0 (qe6 _ _ _) (qe5 _ _ _) (by omega) hs hk hw (kt.ext (((q9.refl (fun _=>False) w2).alloc _).alloc _) (fun _ _ _ f=>f)),hR,h2.ext (((q9.refl (fun _=>False) w2).alloc _).alloc _) (fun f=>f) (fun _ _ _ _ f=>f),(hx.alloc _).alloc _⟩
theorem ji8 {R:Nd->Prop} {w2:World} {t u:Nat} {nd nd2:Nd} (kt:KT w2 (fun i=>w.heap.size<=i) t nd) (ku:KT w2 (fun i=>w.heap.size<=i) u nd2) (hx:q9 (fun i=>i=rb) w w2) (h2:RW w2 rb ga n cap k g) {kk:Int} {wd:ByteArray} (hk:kk=1\/kk=2\/kk=3) (hw:zW1 wd.toList=true) (hR:R (.mk kk wd 0 [nd,nd2])) :
  Mk w rb ga n cap g R (.returned (.pointer (some ⟨w2.heap.size+1,0,none⟩))) ((w2.alloc (.cells #[.pointer (some ⟨t,0,none⟩),.pointer (some ⟨u,0,none⟩)] 31)).alloc (.cells #[.string wd,.slice (some ⟨w2.heap.size,0,none⟩) 2 2,.int .i64 0] 72)):=by
 have hs:=hx.size
 have hx2:=((q9.refl (fun _=>False) w2).alloc (.cells #[.pointer (some ⟨t,0,none⟩),.pointer (some ⟨u,0,none⟩)] 31)).alloc (.cells #[.string wd,.slice (some ⟨w2.heap.size,0,none⟩) 2 2,.int .i64 0] 72)
 refine ⟨_,_,k,rfl,qo1 (qe6 _ _ _) (qe5 _ _ _) (by omega) hs hk hw (kt.ext hx2 (fun _ _ _ f=>f)) (ku.ext hx2 (fun _ _ _ f=>f)),hR,h2.ext hx2 (fun f=>f) (fun _ _ _ _ f=>f),(hx.alloc _).alloc _⟩
theorem KT.over {w1 w2:World} {t:Nat} {nd:Nd} {b:Nat} (kt:KT w1 (fun i=>b<=i) t nd) (hx:q9 (fun i=>i=rb) w1 w2) (hb:w.heap.size<=b) (hrb:rb < w.heap.size):KT w2 (fun i=>w.heap.size<=i) t nd :=
 (kt.ext hx (fun k _ e f=>by omega)).mono (fun k _ e=>by omega)
def qv6 (N:List Nm) (rb:Nat) (ga:Option Addr) (n cap:Nat) (g:Nat->Int) (d:Nat):Prop :=
 ∀ (w:World) (k:Nat),RW w rb ga n cap k g->Calls Tryz.prog 27 #[.pointer (some ⟨rb,0,none⟩),.int .i64 d] w (Mk w rb ga n cap g (TmD N d))
set_option maxHeartbeats 400000 in
theorem qC9 (hN:zW2 N) (hn:n<=maxLen):qv6 N rb ga n cap g 0:=by
 intro w k h
 have HN:=q8 hN
 have HC:=q8 (zh4 h hn 8 (by omega))
 clear h hN
 go_enter Tryz.func27,Tryz.ntmps27
 go_wp2_with fail
 refine HC.out.mono ?_
 rintro e w1 ⟨v,k1,rfl,h0,h8,h1,hx1⟩
 have H1:=q8 h1
 have HX1:=q8 hx1
 clear h1 hx1 HC
 have hv:(v=0\/v=1\/v=2\/v=3\/v=4\/v=5)\/v=6\/v=7:=by omega
 clear h0 h8
 rcases hv with hv | hv
 ·rcases hv with rfl | rfl | rfl | rfl | rfl | rfl
  all_goals
   go_wp2_with fail
   go_ret
   first
    | exact zs3 HN.out _ H1.out HX1.out (.inl jm3)
    | exact zs3 HN.out _ H1.out HX1.out (.inr (.inl jm4))
    | exact zs3 HN.out _ H1.out HX1.out (.inr (.inr jm5))
 ·have HC2:=q8 (zh4 H1.out hn 5 (by omega))
  rcases hv with rfl | rfl
  all_goals
   go_wp2_with fail
   refine HC2.out.mono ?_
   rintro e w2 ⟨u,k2,rfl,h0,h5,h2,hx2⟩
   have H2:=q8 h2
   have HX2:=q8 (HX1.out.trans hx2)
   clear h2 hx2
   go_wp2_with fail
   go_ret
   exact qM9 _ H2.out HX2.out (by omega) (by omega)
set_option maxHeartbeats 800000 in
theorem qD0 (hN:zW2 N) (hn:n<=maxLen) {d:Nat} (hd:d<=20) (ih:qv6 N rb ga n cap g d):qv6 N rb ga n cap g (d+1):=by
 intro w k h
 have HN:=q8 hN
 have HI:=q8 ih
 have HC:=q8 (zh4 h hn 8 (by omega))
 have hrb:rb < w.heap.size:=z8 h.blk
 rw [show (((d+1:Nat)):Int)=(d:Int)+1 by omega]
 have hd0:((d:Int)+1 == 0)=false:=by rw [beq_eq_false_iff_ne];omega
 have hd1:(d:Int)+1 - 1=(d:Int):=by omega
 have hd2:IntKind.i64.wrap ((d:Int)+1 - 1)=(d:Int):=by rw [IntKind.wrap_i64];omega
 have hd3:IntKind.i64.wrap (d:Int)=(d:Int):=by rw [IntKind.wrap_i64];omega
 clear h hN ih
 go_enter Tryz.func27,Tryz.ntmps27
 go_wp2_with fail
 refine HC.out.mono ?_
 rintro e w1 ⟨v,k1,rfl,h0,h8,h1,hx1⟩
 have H1:=q8 h1
 have HX1:=q8 hx1
 clear h1 hx1 HC
 have hv:(v=0\/v=1\/v=2)\/v=3\/(v=4\/v=5)\/(v=6\/v=7):=by omega
 clear h0 h8
 rcases hv with hv | rfl | hv | hv
 ·rcases hv with rfl | rfl | rfl
  all_goals
   go_wp2_with fail
   go_ret
   first
    | exact zs3 HN.out _ H1.out HX1.out (.inl jm3)
    | exact zs3 HN.out _ H1.out HX1.out (.inr (.inl jm4))
    | exact zs3 HN.out _ H1.out HX1.out (.inr (.inr jm5))
 ·have HC2:=q8 (HI.out w1 k1 H1.out)
  go_wp2_with fail
  refine HC2.out.mono ?_
  rintro e w2 ⟨t,nd,k2,rfl,kt,hR,h2,hx2⟩
  have KT1:=q8 kt
  have HR:=q8 hR
  have HX2:=q8 (HX1.out.trans hx2)
  have HX12:=q8 hx2
  have HC3:=q8 (HI.out w2 k2 h2)
  clear h2 hx2 kt hR
  go_wp2_with fail
  refine HC3.out.mono ?_
  rintro e w3 ⟨u,nd2,k3,rfl,ku,hR2,h3,hx3⟩
  have KT2:=q8 ku
  have HR2:=q8 hR2
  have H3:=q8 h3
  have HX3:=q8 hx3
  clear h3 hx3 ku hR2
  go_wp2_with fail
  go_ret
  exact ji8 (KT1.out.over (HX3.out) HX1.out.size hrb) (KT2.out.mono (fun i _ e=>Nat.le_trans HX2.out.size e)) (HX2.out.trans HX3.out) H3.out (by omega) (by rw [ByteArray.toList_eq];rfl) (jo8 HN.out HR.out HR2.out)
 ·have HC2:=q8 (HI.out w1 k1 H1.out)
  rcases hv with rfl | rfl
  all_goals
   go_wp2_with fail
   refine HC2.out.mono ?_
   rintro e w2 ⟨t,nd,k2,rfl,kt,hR,h2,hx2⟩
   have KT1:=q8 kt
   have HR:=q8 hR
   have H2:=q8 h2
   have HX2:=q8 (HX1.out.trans hx2)
   have HX12:=q8 hx2
   clear h2 hx2 kt hR
   go_wp2_with fail
   go_ret
   exact ji7 (KT1.out.mono (fun i _ e=>Nat.le_trans HX1.out.size e)) HX2.out H2.out (by omega) (by rw [ByteArray.toList_eq];rfl) (jo7 HN.out HR.out)
 ·have HC2:=q8 (zh4 H1.out hn 5 (by omega))
  rcases hv with rfl | rfl
  all_goals
   go_wp2_with fail
   refine HC2.out.mono ?_
   rintro e w2 ⟨u,k2,rfl,h0,h5,h2,hx2⟩
   have H2:=q8 h2
   have HX2:=q8 (HX1.out.trans hx2)
   clear h2 hx2
   go_wp2_with fail
   go_ret
   exact qM9 _ H2.out HX2.out (by omega) (by omega)
theorem zR4 (hN:zW2 N) (hn:n<=maxLen):∀ d:Nat,d<=20->qv6 N rb ga n cap g d
 | 0,_=>qC9 hN hn
 | d+1,h=>qD0 hN hn (by omega) (zR4 hN hn d (by omega))
end
def qD1:Nat->Nat
 | 0=>27
 | d+1=>2 * qD1 d+7
theorem zW5:∀ d,27<=qD1 d
 | 0=>Nat.le_refl _
 | d+1=>by have:=zW5 d;rw [qD1];omega
def FmD (N:List Nm) (d:Nat) (nd:Nd):Prop:=(∀ δ,δ+d<=25->RF N δ nd)/\(Z1 nd).length<=qD1 d
section
variable {w w1 W:World} {rb:Nat} {ga:Option Addr} {n cap k:Nat} {g:Nat->Int} {N:List Nm}
theorem jm6 (d:Nat) {a b:Nd} {wd:ByteArray} (hw:zl7 wd.toList=some (2,3)) (hs:wd.size<=3) (ha:TmD N 1 a) (hb:TmD N 1 b):FmD N d (.mk 2 wd 0 [a,b]):=by
 refine ⟨fun δ hδ=>.two hw (by omega) (ha.1 _ (by omega)) (hb.1 _ (by omega)),?_⟩
 have h1:=ha.2
 have h2:=hb.2
 have h3:=zW5 d
 rw [show qe3 1=9 from rfl] at h1 h2
 rw [zW4 _ _ _ _ (by omega)]
 omega
theorem jm7 (d:Nat) {a b:Nd} {wd:ByteArray} (hw:zl7 wd.toList=some (2,4)) (hs:wd.size<=2) (ha:TmD N 1 a) (hb:TmD N 1 b) {v:Int} (h1 : -3<=v) (h2:v<=3):FmD N d (.mk 2 wd 0 [a,b,.mk 5 ByteArray.empty v []]):=by
 refine ⟨fun δ hδ=>.le hw (by omega) (ha.1 _ (by omega)) (hb.1 _ (by omega)) (by omega) (by omega),?_⟩
 have e1:=ha.2
 have e2:=hb.2
 have e3:=zW5 d
 rw [show qe3 1=9 from rfl] at e1 e2
 have hv:v = -3\/v = -2\/v = -1\/v=0\/v=1\/v=2\/v=3:=by omega
 have:(zd3 v).length<=2:=by rcases hv with rfl | rfl | rfl | rfl | rfl | rfl | rfl <;> decide
 rw [ji6]
 omega
theorem ji9 {d:Nat} {a:Nd} {wd:ByteArray} (hw:zl7 wd.toList=some (1,0)) (hs:wd.size<=3) (ha:FmD N d a):FmD N (d+1) (.mk 1 wd 0 [a]):=by
 refine ⟨fun δ hδ=>.con hw (.inl ⟨rfl,rfl⟩) (by omega) (fun p hp=>?_),?_⟩
 ·simp at hp;subst hp;exact ha.1 _ (by omega)
 ·have e1:=ha.2
  rw [zW3 _ _ _ (by omega),qD1]
  omega
theorem qN1 {d:Nat} {a b:Nd} {wd:ByteArray} {s:Int} (hw:zl7 wd.toList=some (1,s)) (hs1:s=1\/s=2) (hs:wd.size<=3) (ha:FmD N d a) (hb:FmD N d b):FmD N (d+1) (.mk 1 wd 0 [a,b]):=by
 refine ⟨fun δ hδ=>.con hw (hs1.elim (fun e=>.inr (.inl ⟨e,rfl⟩)) (fun e=>.inr (.inr e))) (by omega) (fun p hp=>?_),?_⟩
 ·simp at hp
  rcases hp with rfl | rfl
  ·exact ha.1 _ (by omega)
  ·exact hb.1 _ (by omega)
 ·have e1:=ha.2
  have e2:=hb.2
  rw [zW4 _ _ _ _ (by omega),qD1]
  omega
theorem RW.step {w5 w6:World} {k5:Nat} (h:RW w rb ga n cap k g) (h5:RW w5 rb ga n cap k5 g) (hx:q9 (fun i=>i=rb) w w6) (hb:w6.heap[rb]?=w5.heap[rb]?):RW w6 rb ga n cap k5 g :=
 ⟨hb.trans h5.blk,h5.few,h.gaps.ext hx h.off,h.off⟩
theorem jj0 {R:Nd->Prop} {w5:World} {tb q t u k5:Nat} {wd:ByteArray} {nd nd2:Nd} {v z:Int} (h:RW w rb ga n cap k g) (hx:q9 (fun i=>i=rb) w w5) (htb:w.heap.size<=tb)
  (hb:w5.heap[tb]?=some (.cells #[.string wd,.slice (some ⟨q,0,none⟩) 2 2,.int .i64 z] 72)) (hq:w5.heap[q]?=some (.cells #[.pointer (some ⟨t,0,none⟩),.pointer (some ⟨u,0,none⟩)] 31)) (hqt:tb < q)
  (kt:KT w5 (fun i=>tb < i) t nd) (ku:KT w5 (fun i=>tb < i) u nd2) (h5:RW w5 rb ga n cap k5 g) (hv1 : -3<=v) (hv2:v<=3)
  (hw:(zW1 wd.toList=true/\R (.mk 2 wd 0 [nd,nd2]))\/(wd.toList=wLe/\R (.mk 2 wd 0 [nd,nd2,.mk 5 ByteArray.empty v []]))) :
  Mk w rb ga n cap g R (.returned (.pointer (some ⟨tb,0,none⟩))) (w5.setCell ⟨tb,2,none⟩ (.int .i64 v)):=by
 have hrb:rb < w.heap.size:=z8 h.blk
 have hx6:q9 (fun i=>i=tb) w5 (w5.setCell ⟨tb,2,none⟩ (.int .i64 v)):=(q9.refl (fun i=>i=tb) w5).setCell (p:=⟨tb,2,none⟩) (fun _=>rfl) _
 have hxw:q9 (fun i=>i=rb) w (w5.setCell ⟨tb,2,none⟩ (.int .i64 v)):=hx.setCell (p:=⟨tb,2,none⟩) (fun e=>absurd (show tb < w.heap.size from e) (by omega)) _
 have hb6:=X9 hb 2 (.int .i64 v)
 have hq6:=(hx6.block q (z8 hq) (by omega)).trans hq
 have kt6:=(kt.ext hx6 (fun i _ e f=>by omega)).mono (D':=fun i=>w.heap.size<=i) (fun i _ e=>by omega)
 have ku6:=(ku.ext hx6 (fun i _ e f=>by omega)).mono (D':=fun i=>w.heap.size<=i) (fun i _ e=>by omega)
 have hrw:=h.step h5 hxw (hx6.block rb (z8 h5.blk) (by omega))
 rcases hw with ⟨h1,h2⟩ | ⟨h1,h2⟩
 ·exact ⟨tb,_,k5,rfl,qo1 hb6 hq6 htb (by omega) (by omega) h1 kt6 ku6,h2,hrw,hxw⟩
 ·exact ⟨tb,_,k5,rfl,jm2 hb6 hq6 htb (by omega) h1 (by omega) (by omega) kt6 ku6,h2,hrw,hxw⟩
theorem zF5 {w3:World} {t m:Nat} {cs:Array Value} {wd:ByteArray} {z:Int} (hb:w3.heap[t]?=some (.cells #[.string wd,.slice none 0 0,.int .i64 z] 72)) :
  ((w3.setCell ⟨t,1,none⟩ (.slice (some ⟨w3.heap.size,0,none⟩) m m)).alloc (.cells cs 31)).heap[t]?=some (.cells #[.string wd,.slice (some ⟨w3.heap.size,0,none⟩) m m,.int .i64 z] 72) /\
  ((w3.setCell ⟨t,1,none⟩ (.slice (some ⟨w3.heap.size,0,none⟩) m m)).alloc (.cells cs 31)).heap[w3.heap.size]?=some (.cells cs 31) /\
  q9 (fun i=>i=t) w3 ((w3.setCell ⟨t,1,none⟩ (.slice (some ⟨w3.heap.size,0,none⟩) m m)).alloc (.cells cs 31)):=by
 have hx:q9 (fun i=>i=t) w3 (w3.setCell ⟨t,1,none⟩ (.slice (some ⟨w3.heap.size,0,none⟩) m m)):=(q9.refl (fun i=>i=t) w3).setCell (p:=⟨t,1,none⟩) (fun _=>rfl) _
 have h1:=X9 hb 1 (.slice (some ⟨w3.heap.size,0,none⟩) m m)
 have hsz:(w3.setCell ⟨t,1,none⟩ (.slice (some ⟨w3.heap.size,0,none⟩) m m)).heap.size=w3.heap.size:=by simp [World.setCell]
 refine ⟨?_,?_,hx.alloc _⟩
 ·exact (((q9.refl (fun _=>False) _).alloc _).block _ (z8 h1) (fun f=>f)).trans h1
 ·have:=heap_alloc_new (w3.setCell ⟨t,1,none⟩ (.slice (some ⟨w3.heap.size,0,none⟩) m m)) (.cells cs 31)
  rw [hsz] at this
  exact this
theorem RW.parts {w3:World} {t m k3:Nat} {cs:Array Value} {wd:ByteArray} {z:Int} (h:RW w rb ga n cap k g) (h3:RW w3 rb ga n cap k3 g) (hx:q9 (fun i=>i=rb) w w3) (ht:w.heap.size<=t) (hb:w3.heap[t]?=some (.cells #[.string wd,.slice none 0 0,.int .i64 z] 72)) :
  RW ((w3.setCell ⟨t,1,none⟩ (.slice (some ⟨w3.heap.size,0,none⟩) m m)).alloc (.cells cs 31)) rb ga n cap k3 g/\q9 (fun i=>i=rb) w ((w3.setCell ⟨t,1,none⟩ (.slice (some ⟨w3.heap.size,0,none⟩) m m)).alloc (.cells cs 31)):=by
 obtain ⟨_,_,h4⟩:=zF5 (m:=m) (cs:=cs) hb
 have hrb:rb < w.heap.size:=z8 h.blk
 have hx4:q9 (fun i=>i=rb) w ((w3.setCell ⟨t,1,none⟩ (.slice (some ⟨w3.heap.size,0,none⟩) m m)).alloc (.cells cs 31)):=hx.trans' h4 (fun i hi e=>by omega)
 exact ⟨h.step h3 hx4 (h4.block rb (z8 h3.blk) (by omega)),hx4⟩
def qN2 (N:List Nm) (rb:Nat) (ga:Option Addr) (n cap:Nat) (g:Nat->Int) (d:Nat):Prop :=
 ∀ (w:World) (k:Nat),RW w rb ga n cap k g->Calls Tryz.prog 14 #[.pointer (some ⟨rb,0,none⟩),.int .i64 d] w (Mk w rb ga n cap g (FmD N d))
def qo2:Obj:=.cells #[.string ⟨#[61]⟩,.string ⟨#[60]⟩,.string ⟨#[60,61]⟩,.string ⟨#[108,101]⟩,.string ⟨#[110,111,116]⟩,.string ⟨#[97,110,100]⟩,.string ⟨#[111,114]⟩,.string ⟨#[61,62]⟩,.string ⟨#[105,102,102]⟩,.string ⟨#[61]⟩] 70
set_option maxRecDepth 100000 in
set_option maxHeartbeats 2000000 in
theorem zR5 (hN:zW2 N) (hn:n<=maxLen) (d:Nat) (hd:d<=20) (ih:∀ d',d=d'+1->qN2 N rb ga n cap g d'):qN2 N rb ga n cap g d:=by
 intro w k h
 have H0:=q8 h
 have hrb:rb < w.heap.size:=z8 h.blk
 have hx0:q9 (fun _=>False) w (w.alloc qo2):=(q9.refl (fun _=>False) w).alloc _
 have kw:=heap_alloc_new w qo2
 have HC:=q8 (zh4 (h.ext hx0 (fun f=>f) (fun _ _ _ _ f=>f)) hn 10 (by omega))
 have HN:=q8 hN
 have HT:=q8 (zR4 (rb:=rb) (ga:=ga) (cap:=cap) (g:=g) hN hn 1 (by omega))
 have HQ:=q8 hn
 have HI:=q8 ih
 have HX0:=q8 hx0
 clear h hN hn hx0 ih
 go_enter Tryz.func14,Tryz.ntmps14
 go_wp2_with fail
 refine HC.out.mono ?_
 rintro e w1 ⟨v,k1,rfl,h0,h10,h1,hx1⟩
 have kw1:=(hx1.block _ (z8 kw) (by omega)).trans kw
 have HX1:Hid (q9 (fun i=>i=rb) w w1):=(HX0.out.mono (fun _ _ f=>f.elim)).trans hx1
 have H1:=q8 h1
 have hs1:w.heap.size < w1.heap.size:=z8 kw1
 unfold qo2 at kw1
 have c0:=z6 kw1 0
 have c1:=z6 kw1 1
 have c2:=z6 kw1 2
 have c3:=z6 kw1 3
 have c4:=z6 kw1 4
 have c5:=z6 kw1 5
 have c6:=z6 kw1 6
 have c7:=z6 kw1 7
 have c8:=z6 kw1 8
 have c9:=z6 kw1 9
 clear h1 hx1 HC kw kw1 HX0
 have hv:((d=0/\(v=0\/v=1\/v=2\/v=3\/v=4\/v=5\/v=6\/v=7\/v=8\/v=9))\/(((d:Int) == 0)=false/\(v=0\/v=1\/v=2\/v=3\/v=9)))\/(∃ d':Nat,d=d'+1)/\(v=4\/(v=5\/v=6\/v=7\/v=8)):=by
  rw [beq_eq_false_iff_ne]
  by_cases h0:d=0
  ·exact .inl (.inl ⟨h0,by omega⟩)
  ·by_cases h4:v=0\/v=1\/v=2\/v=3\/v=9
   ·exact .inl (.inr ⟨by omega,h4⟩)
   ·exact .inr ⟨⟨d - 1,by omega⟩,by omega⟩
 clear h0 h10
 rcases hv with hv | ⟨⟨d',hd'⟩,hv⟩
 ·rcases hv with ⟨rfl,rfl | rfl | rfl | rfl | rfl | rfl | rfl | rfl | rfl | rfl⟩ | ⟨hdb,rfl | rfl | rfl | rfl | rfl⟩
  all_goals
   go_wp2_with fail
   refine (HT.out _ k1 (H1.out.ext ((q9.refl (fun _=>False) w1).alloc _) (fun f=>f) (fun _ _ _ _ f=>f))).mono ?_
   rintro e w2 ⟨ta,na,k2,rfl,kta,hra,h2,hx2⟩
   have kb2:=(hx2.block w1.heap.size (by simp) (by omega)).trans (heap_alloc_new w1 _)
   have hsz2:=hx2.size
   rw [zb0] at hsz2
   have KTA:Hid (KT w2 (fun i=>w1.heap.size < i) ta na):=kta.mono (fun i _ e=>by rw [zb0] at e;exact e)
   have HRA:=q8 hra
   have HX2:Hid (q9 (fun i=>i=rb) w w2):=(HX1.out.alloc _).trans hx2
   have KB2:=q8 kb2
   have HC3:=q8 (HT.out w2 k2 h2)
   clear kta hra h2 hx2 c0 c1 c2 c3 c4 c5 c6 c7 c8 c9 kb2
   go_wp2_with fail
   refine HC3.out.mono ?_
   rintro e w3 ⟨tb,nb,k3,rfl,ktb,hrb3,h3,hx3⟩
   have kb3:=(hx3.block _ (z8 KB2.out) (by omega)).trans KB2.out
   have b0:=z6 kb3 1
   have b1:=j9 kb3 1
   have hs3:=z8 kb3
   have KB3:=q8 kb3
   have KTB:Hid (KT w3 (fun i=>w1.heap.size < i) tb nb):=ktb.mono (fun i _ e=>by omega)
   have KTA3:Hid (KT w3 (fun i=>w1.heap.size < i) ta na):=KTA.out.ext hx3 (fun i _ e f=>by omega)
   have HRB:=q8 hrb3
   have H3:=q8 h3
   have HX3:Hid (q9 (fun i=>i=rb) w w3):=HX2.out.trans hx3
   clear ktb hrb3 h3 hx3 kb3 HC3
   go_wp2_with fail
   obtain ⟨p1,p2,p3⟩:=zF5 (m:=2) (cs:=#[.pointer (some ⟨ta,0,none⟩),.pointer (some ⟨tb,0,none⟩)]) KB3.out
   obtain ⟨r4,hx4⟩:=H0.out.parts (m:=2) (cs:=#[.pointer (some ⟨ta,0,none⟩),.pointer (some ⟨tb,0,none⟩)]) H3.out HX3.out (Nat.le_of_lt hs1) KB3.out
   refine (zh4 r4 HQ.out 7 (by omega)).mono ?_
   rintro e w5 ⟨v,k5,rfl,hv0,hv7,h5,hx5⟩
   have kb5:=(hx5.block _ (z8 p1) (by omega)).trans p1
   have kq5:=(hx5.block _ (z8 p2) (by omega)).trans p2
   have KTA5:Hid (KT w5 (fun i=>w1.heap.size < i) ta na):=(KTA3.out.ext p3 (fun i _ e f=>by omega)).ext hx5 (fun i _ e f=>by omega)
   have KTB5:Hid (KT w5 (fun i=>w1.heap.size < i) tb nb):=(KTB.out.ext p3 (fun i _ e f=>by omega)).ext hx5 (fun i _ e f=>by omega)
   have HX5:Hid (q9 (fun i=>i=rb) w w5):=hx4.trans hx5
   have H5:=q8 h5
   have KB5:=q8 kb5
   have KQ5:=q8 kq5
   have d0:=z6 kb5 2
   have d1:=j9 kb5 2
   clear p1 p2 p3 r4 hx4 h5 hx5 kb5 kq5 b0 b1
   go_wp2_with fail
   go_ret
   refine jj0 H0.out HX5.out (Nat.le_of_lt hs1) KB5.out KQ5.out hs3 KTA5.out KTB5.out H5.out (by omega) (by omega) ?_
   first
    | exact .inl ⟨by rw [ByteArray.toList_eq];rfl,jm6 _ (by rw [ByteArray.toList_eq];rfl) (by decide) HRA.out HRB.out⟩
    | exact .inr ⟨by rw [ByteArray.toList_eq];rfl,jm7 _ (by rw [ByteArray.toList_eq];rfl) (by decide) HRA.out HRB.out (by omega) (by omega)⟩
 ·have hdb:((d:Int) == 0)=false:=by rw [beq_eq_false_iff_ne];omega
  have hd1:(d:Int) - 1=(d':Int):=by omega
  have hd3:IntKind.i64.wrap (d':Int)=(d':Int):=by rw [IntKind.wrap_i64];omega
  have HF:=q8 (HI.out d' hd')
  rcases hv with rfl | hv
  ·go_wp2_with fail
   refine (HF.out _ k1 (H1.out.ext ((q9.refl (fun _=>False) w1).alloc _) (fun f=>f) (fun _ _ _ _ f=>f))).mono ?_
   rintro e w2 ⟨ta,na,k2,rfl,kta,hra,h2,hx2⟩
   have kb2:=(hx2.block w1.heap.size (by simp) (by omega)).trans (heap_alloc_new w1 _)
   have hs2:=z8 kb2
   have KTA:Hid (KT w2 (fun i=>w1.heap.size < i) ta na):=kta.mono (fun i _ e=>by rw [zb0] at e;exact e)
   have HRA:=q8 hra
   have H2:=q8 h2
   have HX2:Hid (q9 (fun i=>i=rb) w w2):=(HX1.out.alloc _).trans hx2
   have b0:=z6 kb2 1
   have b1:=j9 kb2 1
   have KB2:=q8 kb2
   clear kta hra h2 hx2 c0 c1 c2 c3 c4 c5 c6 c7 c8 c9 kb2
   go_wp2_with fail
   go_ret
   obtain ⟨p1,p2,p3⟩:=zF5 (m:=1) (cs:=#[.pointer (some ⟨ta,0,none⟩)]) KB2.out
   obtain ⟨r4,hx4⟩:=H0.out.parts (m:=1) (cs:=#[.pointer (some ⟨ta,0,none⟩)]) H2.out HX2.out (Nat.le_of_lt hs1) KB2.out
   subst hd'
   exact ⟨_,_,k2,rfl,qN0 p1 p2 (Nat.le_of_lt hs1) (by omega) (by omega) (by rw [ByteArray.toList_eq];rfl) ((KTA.out.ext p3 (fun i _ e f=>by omega)).mono (fun i _ e=>by omega)),ji9 (by rw [ByteArray.toList_eq];rfl) (by decide) HRA.out,r4,hx4⟩
  ·rcases hv with rfl | rfl | rfl | rfl
   all_goals
    go_wp2_with fail
    refine (HF.out _ k1 (H1.out.ext ((q9.refl (fun _=>False) w1).alloc _) (fun f=>f) (fun _ _ _ _ f=>f))).mono ?_
    rintro e w2 ⟨ta,na,k2,rfl,kta,hra,h2,hx2⟩
    have kb2:=(hx2.block w1.heap.size (by simp) (by omega)).trans (heap_alloc_new w1 _)
    have hs2:=z8 kb2
    have KTA:Hid (KT w2 (fun i=>w1.heap.size < i) ta na):=kta.mono (fun i _ e=>by rw [zb0] at e;exact e)
    have HRA:=q8 hra
    have HX2:Hid (q9 (fun i=>i=rb) w w2):=(HX1.out.alloc _).trans hx2
    have KB2:=q8 kb2
    have HC3:=q8 (HF.out w2 k2 h2)
    clear kta hra h2 hx2 c0 c1 c2 c3 c4 c5 c6 c7 c8 c9 kb2
    go_wp2_with fail
    refine HC3.out.mono ?_
    rintro e w3 ⟨tb,nb,k3,rfl,ktb,hrb3,h3,hx3⟩
    have kb3:=(hx3.block _ (z8 KB2.out) (by omega)).trans KB2.out
    have b0:=z6 kb3 1
    have b1:=j9 kb3 1
    have hs3:=z8 kb3
    have KB3:=q8 kb3
    have KTB:Hid (KT w3 (fun i=>w1.heap.size < i) tb nb):=ktb.mono (fun i _ e=>by omega)
    have KTA3:Hid (KT w3 (fun i=>w1.heap.size < i) ta na):=KTA.out.ext hx3 (fun i _ e f=>by omega)
    have HRB:=q8 hrb3
    have H3:=q8 h3
    have HX3:Hid (q9 (fun i=>i=rb) w w3):=HX2.out.trans hx3
    clear ktb hrb3 h3 hx3 kb3 HC3
    go_wp2_with fail
    go_ret
    obtain ⟨p1,p2,p3⟩:=zF5 (m:=2) (cs:=#[.pointer (some ⟨ta,0,none⟩),.pointer (some ⟨tb,0,none⟩)]) KB3.out
    obtain ⟨r4,hx4⟩:=H0.out.parts (m:=2) (cs:=#[.pointer (some ⟨ta,0,none⟩),.pointer (some ⟨tb,0,none⟩)]) H3.out HX3.out (Nat.le_of_lt hs1) KB3.out
    subst hd'
    refine ⟨_,_,k3,rfl,qo1 (kk:=1) p1 p2 (Nat.le_of_lt hs1) (by omega) (by omega) (by rw [ByteArray.toList_eq];rfl) ((KTA3.out.ext p3 (fun i _ e f=>by omega)).mono (fun i _ e=>by omega)) ((KTB.out.ext p3 (fun i _ e f=>by omega)).mono (fun i _ e=>by omega)),?_,r4,hx4⟩
    first
     | exact qN1 (s:=1) (by rw [ByteArray.toList_eq];rfl) (.inl rfl) (by decide) HRA.out HRB.out
     | exact qN1 (s:=2) (by rw [ByteArray.toList_eq];rfl) (.inr rfl) (by decide) HRA.out HRB.out
theorem zB9 (hN:zW2 N) (hn:n<=maxLen):∀ d:Nat,d<=20->qN2 N rb ga n cap g d
 | 0,h=>zR5 hN hn 0 h (fun d' e=>by omega)
 | d+1,h=>zR5 hN hn (d+1) h (fun d' e=>by obtain rfl:d=d':=(by omega);exact zB9 hN hn d (by omega))
end
theorem jm8:zW2 zg0:=⟨by kernel_rfl,by kernel_rfl,by kernel_rfl,by kernel_rfl,by kernel_rfl⟩
section
variable {w w0 w1 w':World} {sb:Nat} {N:List Nm} {L:List (Nd × Int)} {d:Nat} {G D:Nat->Prop} {ga:Option Addr} {n cap:Nat} {g:Nat->Int}
theorem qY3 (h:qn7 w ga n g) (hx:q9 (fun _=>False) w w1):RW (w1.alloc (.cells #[.slice ga n cap,.int .i64 0] 30)) w1.heap.size ga n cap 0 g:=by
 refine ⟨heap_alloc_new _ _,Nat.zero_le _,h.ext (hx.alloc _) (fun _ _ _ _ f=>f),fun b off hn e=>?_⟩
 obtain ⟨b',off',e',hb,_⟩:=h 0 hn
 rw [e] at e'
 simp at e'
 have:=hx.size
 omega
theorem KT.kp {t:Nat} {nd:Nd} (kt:KT w D t nd) (hD:∀ k,D k->G k) (hp:KP w0 G w sb N L d w'):KT w' D t nd:=kt.ext hp.2 (fun k _ e f=>f.2 (hD k e))
theorem jm9 {Q:List Nd} {s:ByteArray} {nd:Nd} (hs:s.toList=Z1 nd) (hR:RF N 0 nd) (hl:(Z1 nd).length<=600) :
  (zu4 (y9 N Q s).1 (y9 N Q s).2.1=0/\(y9 N Q s).2.2=some nd)\/(zu4 (y9 N Q s).1 (y9 N Q s).2.1=1/\(y9 N Q s).2.2=none):=by
 obtain ⟨us,e⟩:=qz1 hR
 have hsz:s.size<=600:=by rw [<- Z3,hs];exact hl
 unfold y9
 rw [if_neg (by omega),hs,e]
 simp only
 split
 ·exact .inr ⟨rfl,rfl⟩
 ·split
  ·exact .inr ⟨rfl,rfl⟩
  ·split
   ·exact .inr ⟨rfl,rfl⟩
   ·exact .inl ⟨rfl,rfl⟩
theorem zF6 (h:KS w0 G w sb N L d) {s:ByteArray} {nd:Nd} (hs:s.toList=Z1 nd) (hR:RF N 0 nd) (hl:(Z1 nd).length<=600) (hhd:za2 w0) :
  Calls Tryz.prog 15 #[.pointer (some ⟨sb,0,none⟩),.string s] w fun e w'=>∃ (i:Int) (o:Option Nd),e=.returned (.int .i64 i)/\(i=0/\o=some nd\/i=1/\o=none)/\KP w0 G w sb N (L++zC6 o d) d w':=by
 have hsz:s.size<=600:=by rw [<- Z3,hs];exact hl
 refine (qN9 h s (by unfold maxLen;omega) hhd).mono ?_
 rintro e w' ⟨rfl,hp⟩
 exact ⟨_,_,rfl,jm9 hs hR hl,hp⟩
theorem qe7 {s:ByteArray} {nd:Nd} (hs:s.toList=Z1 nd):((⟨#[40,110,111,116,32]⟩:ByteArray)++s++(⟨#[41]⟩:ByteArray)).toList=Z1 (zo7 nd):=by
 unfold zo7
 rw [Z1,if_pos (.inl rfl),V9,if_neg (by decide),qo7,Q0,Q0,<- hs]
 simp [ByteArray.toList_eq,zj2]
theorem jj1 {nd:Nd} {δ:Nat} (h:RF N (δ+1) nd) (hd : δ < 30):RF N δ (zo7 nd) :=
 .con (s:=0) (by rw [qo7];kernel_rfl) (.inl ⟨rfl,rfl⟩) hd (fun p hp=>by simp at hp;subst hp;exact h)
theorem qY4 (nd:Nd):(Z1 (zo7 nd)).length=(Z1 nd).length+6:=by
 unfold zo7
 rw [zW3 _ _ _ (by omega),show jj2.size=3 from rfl]
 omega
theorem qo3 (L:List Nd) (b:Nd):Sat L↔Sat (L++[b])\/Sat (L++[zo7 b]):=by
 constructor
 ·rintro ⟨I,h⟩
  cases e:ftr (zo4 (zo9 I)) b with
  | true=>exact .inl ⟨I,fun f hf=>by
    rcases List.mem_append.1 hf with hf | hf
    ·exact h f hf
    ·rw [List.mem_singleton.1 hf];exact e⟩
  | false=>exact .inr ⟨I,fun f hf=>by
    rcases List.mem_append.1 hf with hf | hf
    ·exact h f hf
    ·rw [List.mem_singleton.1 hf,zW7,e];rfl⟩
 ·rintro (h | h) <;> exact h.fewer (fun f hf=>List.mem_append_left _ hf)
theorem qN3 (L:List Nd) (b:Nd):¬Sat (L++[b]++[zo7 b]):=by
 rintro ⟨I,h⟩
 have h1:=h b (by simp)
 have h2:=h (zo7 b) (by simp)
 rw [zW7,h1] at h2
 cases h2
theorem qY5 (a:Nd) (o1 o2:Option Nd):((([(a,(0:Int))]++zC6 o1 ((1:Nat):Int))++zC6 o2 ((2:Nat):Int)).filter (fun x=>decide (x.2 < ((1:Nat):Int)+1))).filter (fun x=>decide (x.2 < ((0:Nat):Int)+1))=[(a,0)]:=by
 cases o1 <;> cases o2 <;> simp [zC6]
theorem qe8 (i:Nat):zg0.filter (fun x=>decide (x.fr < (i:Int)+1))=zg0:=by
 refine List.filter_eq_self.2 (fun x hx=>?_)
 have:x.fr=0:=by simp [zg0] at hx;rcases hx with rfl | rfl | rfl | rfl | rfl <;> rfl
 simp [this]
end
set_option maxRecDepth 100000 in
set_option maxHeartbeats 1000000 in
theorem qo4 (w:World) (sa:Option Addr) (n cap:Nat) (g:Nat->Int) (hn:n<=maxLen) (hg:qn7 w sa n g) (hhd:za2 w) (hpt:Y1 w) :
  Calls Tryz.prog 6 #[.slice sa n cap] w fun e w'=>e=.returned (.bool true)/\q9 (fun _=>False) w w':=by
 have HHD:=q8 hhd
 have HPT:=q8 hpt
 have HG:=q8 hg
 have HN:=q8 hn
 have HC1:=q8 (qo9 w hhd hpt)
 clear hhd hpt hg hn
 go_enter Tryz.func6,Tryz.ntmps6
 go_wp2_with fail
 refine HC1.out.mono ?_
 rintro e w1 ⟨sb,rfl,h1⟩
 have H1:=q8 h1
 have HR:=q8 (qY3 (cap:=cap) HG.out h1.1)
 clear h1 HC1
 obtain ⟨W1,hW1⟩:∃ W,w1.alloc (.cells #[.slice sa n cap,.int .i64 0] 30)=W:=⟨_,rfl⟩
 have HXA:Hid (q9 (fun _=>False) w1 W1):=by rw [<- hW1];exact (q9.refl (fun _=>False) w1).alloc _
 have hsz:W1.heap.size=w1.heap.size+1:=by rw [<- hW1];simp
 rw [hW1] at HR
 have HC2:=q8 (zB9 jm8 HN.out 2 (by omega) W1 0 HR.out)
 go_wp2_with fail
 obtain ⟨rb,hrb⟩:∃ rb,w1.heap.size=rb:=⟨_,rfl⟩
 rw [hrb] at HC2 HR hsz ⊢
 clear hW1
 refine HC2.out.mono ?_
 rintro e w2 ⟨ta,na,k2,rfl,kta,ha,h2,hx2⟩
 have KTA:=q8 kta
 have HA:=q8 ha
 have HX2:=q8 hx2
 have HC3:=q8 (zB9 jm8 HN.out 3 (by omega) w2 k2 h2)
 clear kta ha h2 hx2 HC2
 go_wp2_with fail
 refine HC3.out.mono ?_
 rintro e w3 ⟨tb,nb,k3,rfl,ktb,hb,h3,hx3⟩
 have KTA3:Hid (KT w3 (fun i=>W1.heap.size<=i/\i < w3.heap.size) ta na):=(KTA.out.ext hx3 (fun k _ e f=>by omega)).mono (fun k hk e=>⟨e,hk⟩)
 have KTB:Hid (KT w3 (fun i=>W1.heap.size<=i/\i < w3.heap.size) tb nb):=ktb.mono (fun k hk e=>⟨Nat.le_trans HX2.out.size e,hk⟩)
 have HB:=q8 hb
 have HS3:Hid (KS w (fun i=>W1.heap.size<=i/\i < w3.heap.size) w3 sb zg0 [] 0):=H1.out.guard (HXA.out.trans' (HX2.out.trans hx3) (fun k hk e=>by omega)) (fun k hk=>.inr ⟨by omega,hk.2⟩)
 have hla:(Z1 na).length<=129:=HA.out.2
 have hlb:(Z1 nb).length<=265:=HB.out.2
 have HRA:Hid (RF zg0 0 na):=HA.out.1 0 (by omega)
 have HRB:Hid (RF zg0 0 nb):=HB.out.1 0 (by omega)
 have HRN:Hid (RF zg0 0 (zo7 nb)):=jj1 (HB.out.1 1 (by omega)) (by omega)
 have hln:(Z1 (zo7 nb)).length<=600:=by rw [qY4];omega
 have HC4:=q8 (zy7 KTA3.out w3 (q9.refl _ _) (by omega))
 clear ktb hb h3 hx3 HC3 KTA HX2 HA HB
 go_wp2_with fail
 refine HC4.out.mono ?_
 rintro e w4 ⟨sA,rfl,hsA,hx4⟩
 have HC5:=q8 (zF6 (HS3.out.quiet hx4) hsA HRA.out (by omega) HHD.out)
 have KTB4:Hid (KT w4 (fun i=>W1.heap.size<=i/\i < w3.heap.size) tb nb):=KTB.out.ext hx4 (fun _ _ _ f=>f)
 clear hsA hx4 HC4 KTB HS3
 go_wp2_with fail
 refine HC5.out.mono ?_
 rintro e w5 ⟨k,o,rfl,hk,h5⟩
 rcases hk with ⟨rfl,rfl⟩ | ⟨rfl,rfl⟩
 case inr =>
  have HX:=q8 h5.1.1
  clear h5 HC5
  go_wp2_with fail
  go_ret
  exact ⟨rfl,HX.out⟩
 have KTB5:Hid (KT w5 (fun i=>W1.heap.size<=i/\i < w3.heap.size) tb nb):=KTB4.out.kp (fun _ e=>e) h5
 have HC6:=q8 (zs4 h5.1 HPT.out)
 clear h5 HC5 KTB4
 go_wp2_with fail
 refine HC6.out.mono ?_
 rintro e w6 ⟨first,rfl,hfirst,h6⟩
 have HF:=q8 hfirst
 have KTB6:Hid (KT w6 (fun i=>W1.heap.size<=i/\i < w3.heap.size) tb nb):=KTB5.out.kp (fun _ e=>e) h6
 have HC7:=q8 (qo6 h6.1 (by omega))
 clear hfirst h6 HC6 KTB5
 go_wp2_with fail
 refine HC7.out.mono ?_
 rintro e w7 ⟨rfl,h7⟩
 have KTB7:Hid (KT w7 (fun i=>W1.heap.size<=i/\i < w3.heap.size) tb nb):=KTB6.out.kp (fun _ e=>e) h7
 have H7:=q8 h7.1
 have HC8:=q8 (zy7 KTB7.out w7 (q9.refl _ _) (by omega))
 clear h7 HC7 KTB6
 go_wp2_with fail
 refine HC8.out.mono ?_
 rintro e w8 ⟨sB,rfl,hsB,hx8⟩
 have HC9:=q8 (zF6 (H7.out.quiet hx8) hsB HRB.out (by omega) HHD.out)
 have KTB8:Hid (KT w8 (fun i=>W1.heap.size<=i/\i < w3.heap.size) tb nb):=KTB7.out.ext hx8 (fun _ _ _ f=>f)
 clear hsB hx8 HC8 KTB7 H7
 go_wp2_with fail
 refine HC9.out.mono ?_
 rintro e w9 ⟨x,ox,rfl,hx,h9⟩
 have HXX:=q8 hx
 have KTB9:Hid (KT w9 (fun i=>W1.heap.size<=i/\i < w3.heap.size) tb nb):=KTB8.out.kp (fun _ e=>e) h9
 have HC10:=q8 (zs4 h9.1 HPT.out)
 clear hx h9 HC9 KTB8
 go_wp2_with fail
 refine HC10.out.mono ?_
 rintro e w10 ⟨yes,rfl,hyes,h10⟩
 have HY:=q8 hyes
 have KTB10:Hid (KT w10 (fun i=>W1.heap.size<=i/\i < w3.heap.size) tb nb):=KTB9.out.kp (fun _ e=>e) h10
 have HC11:=q8 (qo6 h10.1 (by omega))
 clear hyes h10 HC10 KTB9
 go_wp2_with fail
 refine HC11.out.mono ?_
 rintro e w11 ⟨rfl,h11⟩
 have KTB11:Hid (KT w11 (fun i=>W1.heap.size<=i/\i < w3.heap.size) tb nb):=KTB10.out.kp (fun _ e=>e) h11
 have H11:=q8 h11.1
 have HC12:=q8 (zy7 KTB11.out w11 (q9.refl _ _) (by omega))
 clear h11 HC11 KTB10
 go_wp2_with fail
 refine HC12.out.mono ?_
 rintro e w12 ⟨sC,rfl,hsC,hx12⟩
 have hzC:sC.size<=265:=by rw [<- Z3,hsC];exact hlb
 have HC13:=q8 (zF6 (H11.out.quiet hx12) (qe7 hsC) HRN.out hln HHD.out)
 have KTB12:Hid (KT w12 (fun i=>W1.heap.size<=i/\i < w3.heap.size) tb nb):=KTB11.out.ext hx12 (fun _ _ _ f=>f)
 clear hsC hx12 HC12 KTB11 H11
 go_wp2_with fail
 refine HC13.out.mono ?_
 rintro e w13 ⟨y,oy,rfl,hy,h13⟩
 have HYY:=q8 hy
 have KTB13:Hid (KT w13 (fun i=>W1.heap.size<=i/\i < w3.heap.size) tb nb):=KTB12.out.kp (fun _ e=>e) h13
 have HC14:=q8 (zs4 h13.1 HPT.out)
 clear hy h13 HC13 KTB12
 go_wp2_with fail
 refine HC14.out.mono ?_
 rintro e w14 ⟨both,rfl,hboth,h14⟩
 have HBO:=q8 hboth
 have KTB14:Hid (KT w14 (fun i=>W1.heap.size<=i/\i < w3.heap.size) tb nb):=KTB13.out.kp (fun _ e=>e) h14
 have HC15:=q8 (qN6 h14.1)
 clear hboth h14 HC14 KTB13
 go_wp2_with fail
 refine HC15.out.mono ?_
 rintro e w15 ⟨rfl,h15⟩
 have KTB15:Hid (KT w15 (fun i=>W1.heap.size<=i/\i < w3.heap.size) tb nb):=KTB14.out.kp (fun _ e=>e) h15
 have HC16:=q8 (qN6 h15.1)
 clear h15 HC15 KTB14
 go_wp2_with fail
 refine HC16.out.mono ?_
 rintro e w16 ⟨rfl,h16⟩
 have KTB16:Hid (KT w16 (fun i=>W1.heap.size<=i/\i < w3.heap.size) tb nb):=KTB15.out.kp (fun _ e=>e) h16
 have h16':KS w (fun i=>W1.heap.size<=i/\i < w3.heap.size) w16 sb zg0 [(na,0)] 0:=by
  have e:=h16.1
  rw [qe8,qe8] at e
  have e2:=qY5 na ox oy
  rw [<- e2]
  exact e
 have H16:=q8 h16'
 have HC17:=q8 (zy7 KTB16.out w16 (q9.refl _ _) (by omega))
 have hx2:(x == 2)=false:=by rcases HXX.out with ⟨rfl,_⟩ | ⟨rfl,_⟩ <;> rfl
 have hy2:(y == 2)=false:=by rcases HYY.out with ⟨rfl,_⟩ | ⟨rfl,_⟩ <;> rfl
 clear h16 h16' HC16 KTB15
 go_wp2_with fail
 refine HC17.out.mono ?_
 rintro e w17 ⟨sD,rfl,hsD,hx17⟩
 have hzD:sD.size<=265:=by rw [<- Z3,hsD];exact hlb
 have HC18:=q8 (zF6 (H16.out.quiet hx17) (qe7 hsD) HRN.out hln HHD.out)
 clear hsD hx17 HC17 KTB16 H16
 go_wp2_with fail
 refine HC18.out.mono ?_
 rintro e w18 ⟨z,oz,rfl,hz,h18⟩
 have HZZ:=q8 hz
 have HC19:=q8 (zs4 h18.1 HPT.out)
 clear hz h18 HC18
 go_wp2_with fail
 refine HC19.out.mono ?_
 rintro e w19 ⟨no,rfl,hno,h19⟩
 have HNO:=q8 hno
 have HX:=q8 h19.1.1
 clear hno h19 HC19
 have hz2:(z == 2)=false:=by rcases HZZ.out with ⟨rfl,_⟩ | ⟨rfl,_⟩ <;> rfl
 rcases HXX.out with ⟨rfl,rfl⟩ | ⟨rfl,rfl⟩
 case inr =>
  go_wp2_with fail
  go_ret
  exact ⟨rfl,HX.out⟩
 rcases HYY.out with ⟨rfl,rfl⟩ | ⟨rfl,rfl⟩
 case inr =>
  go_wp2_with fail
  go_ret
  exact ⟨rfl,HX.out⟩
 rcases HZZ.out with ⟨rfl,rfl⟩ | ⟨rfl,rfl⟩
 case inr =>
  go_wp2_with fail
  go_ret
  exact ⟨rfl,HX.out⟩
 have e1:first=true↔Sat [na]:=HF.out
 have e2:yes=true↔Sat ([na]++[nb]):=HY.out
 have e3:both=true↔Sat ([na]++[nb]++[zo7 nb]):=HBO.out
 have e4:no=true↔Sat ([na]++[zo7 nb]):=HNO.out
 obtain rfl:both=false:=by
  cases both with
  | false=>rfl
  | true=>exact absurd (e3.1 rfl) (qN3 _ _)
 have e5:first=(yes || no):=by
  rw [Bool.eq_iff_iff,Bool.or_eq_true,e1,e2,e4]
  exact qo3 [na] nb
 clear e1 e2 e3 e4 HF HY HBO HNO
 subst e5
 cases yes <;> cases no
 all_goals
  go_wp2_with fail
  go_ret
  exact ⟨rfl,HX.out⟩
end Go.Proofs.YtegbdaffhpiacaaGreatDoor
