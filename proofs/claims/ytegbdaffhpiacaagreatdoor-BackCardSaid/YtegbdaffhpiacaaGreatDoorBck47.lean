/- The statements without the document's answer: a number's digits; The statement Chained: the call; The statements without the document's answer: raw numbers; trees in memory; The statements without the document's answer: how a tree is written; The statements without the document's answer: terms out of raw numbers; The statements without the document's answer: formulas out of raw numbers; The statements without the document's answer: what is laid of formulas of raw numbers; The statement Back: what its texts say; The statement Back: the call; The statement Back: the call. -/
import Derived.Test.YtegbdaffhpiacaaGreatDoorBck45
import Derived.Test.YtegbdaffhpiacaaGreatDoorBck46
namespace Go.Proofs.YtegbdaffhpiacaaGreatDoor
open Go.RowKit Go.Maps Ar
def qN1:ByteArray:=⟨#[48,49,50,51,52,53,54,55,56,57]⟩
theorem qN2:((List.range 10).all fun n=>(qN1.extract n (n+1)).data.toList == [dig n])=true:=by decide +kernel
theorem zK5 {n:Nat} (h:n < 10):(qN1.extract n (n+1)).toList=[dig n]:=by
 have:=List.all_eq_true.1 qN2 n (List.mem_range.2 h)
 rw [ByteArray.toList_eq]
 simpa using this
theorem za5 (a b:ByteArray):(a++b).toList=a.toList++b.toList:=by
 rw [ByteArray.toList_eq,ByteArray.toList_eq,ByteArray.toList_eq,ByteArray.toList_data_append]
set_option maxRecDepth 100000 in
set_option maxHeartbeats 400000 in
theorem zE0 (f:Nat):∀ (n:Nat) (w:World),n < 10 ^ (f+1)->f<=3->Calls Tryz.prog 22 #[.int .i64 n] w fun e w'=>∃ s:ByteArray,e=.returned (.string s)/\s.toList=zu6 f n/\q9 (fun _=>False) w w':=by
 induction f with
 | zero =>
  intro n w hn _
  have HX:=q8 (q9.refl (fun _=>False) w)
  have hn':n < 10:=by simpa using hn
  have h0:¬(n:Int) < 0:=by omega
  have h10:(n:Int) < 10:=by omega
  go_enter Tryz.func22,Tryz.ntmps22
  go_wp2_with fail
  go_ret
  exact ⟨qN1.extract n (n+1),rfl,by rw [zK5 hn',zu6],HX.out⟩
 | succ f ih =>
  intro n w hn hf
  have h0:¬(n:Int) < 0:=by omega
  have hb:n < 10000:=by
   have:10 ^ (f+1+1)<=10 ^ 4:=Nat.pow_le_pow_right (by omega) (by omega)
   omega
  by_cases hs:n < 10
  ·have HX:=q8 (q9.refl (fun _=>False) w)
   have h10:(n:Int) < 10:=by omega
   clear ih
   go_enter Tryz.func22,Tryz.ntmps22
   go_wp2_with fail
   go_ret
   exact ⟨qN1.extract n (n+1),rfl,by rw [zK5 hs,zu6,if_pos hs],HX.out⟩
  ·have h10:¬(n:Int) < 10:=by omega
   have HI:=q8 (ih (n / 10) w.drew (by rw [Nat.pow_succ] at hn;omega) (by omega))
   obtain ⟨q,hq0⟩:∃ q,n / 10=q:=⟨_,rfl⟩
   obtain ⟨r,hr0⟩:∃ r,n % 10=r:=⟨_,rfl⟩
   have hq:(n:Int) / 10=(q:Int):=by omega
   have hr:(n:Int) % 10=(r:Int):=by omega
   have hq2:(n:Int).tdiv 10=(q:Int):=by rw [Int.tdiv_eq_ediv_of_nonneg (by omega),hq]
   have hr2:(n:Int).tmod 10=(r:Int):=by rw [Int.tmod_eq_emod_of_nonneg (by omega),hr]
   have hr10:r < 10:=by omega
   have hc1:(0:Int)<=(r:Int)+1:=by omega
   have hc2:(r:Int)+1<=10:=by omega
   have hc3:(r:Int)<=(r:Int)+1:=by omega
   have hwq:IntKind.i64.wrap (q:Int)=q:=by rw [IntKind.wrap_i64];omega
   have hwr:IntKind.i64.wrap ((r:Int)+1)=(r:Int)+1:=by rw [IntKind.wrap_i64];omega
   rw [hq0] at HI
   have HQ0:=q8 hq0
   have HR0:=q8 hr0
   clear ih hq0 hr0
   go_enter Tryz.func22,Tryz.ntmps22
   go_wp2_with fail
   go_region_law (go_simp;go_wp2_with (go_at_call 22;with_reducible refine HI.out.mono ?_;rintro e w1 ⟨s,rfl,hsl,hx⟩;have hsz:s.size<=5:=(by rw [<- Z3,hsl];have:=zh6 f q;omega);have hlim:¬9223372036854775807 < s.size+(min (r+1) 10 - r):=(by omega);have HSL:=q8 hsl;have HX1:=q8 hx;clear hsl hx))
   all_goals
    go_wp2_with fail
    go_ret
    refine ⟨s++qN1.extract r (r+1),rfl,?_,((q9.refl _ w).drew).trans HX1.out⟩
    rw [za5,HSL.out,zK5 hr10,zu6,if_neg hs,HQ0.out,HR0.out]
theorem zE1 (v:Int) (w:World) (h1 : -1000<=v) (h2:v<=1000):Calls Tryz.prog 22 #[.int .i64 v] w fun e w'=>∃ s:ByteArray,e=.returned (.string s)/\s.toList=zd4 v/\q9 (fun _=>False) w w':=by
 by_cases h0:v < 0
 ·obtain ⟨n,hn⟩:∃ n:Nat,-v=n:=⟨(-v).toNat,by omega⟩
  have HI:=q8 (zE0 3 n w (by omega) (by omega))
  rw [<- hn] at HI
  have HN:=q8 hn
  clear hn
  go_enter Tryz.func22,Tryz.ntmps22
  go_wp2_with fail
  refine HI.out.mono ?_
  rintro e w1 ⟨s,rfl,hsl,hx⟩
  have hsz:s.size<=5:=by rw [<- Z3,hsl];have:=zh6 3 n;omega
  have HSL:=q8 hsl
  have HX1:=q8 hx
  clear hsl hx HI
  go_wp2_with fail
  go_ret
  refine ⟨(⟨#[45]⟩:ByteArray)++s,rfl,?_,HX1.out⟩
  rw [za5,HSL.out,zd4,if_pos h0,HN.out]
  simp [ByteArray.toList_eq]
 ·obtain ⟨n,rfl⟩:∃ n:Nat,v=n:=⟨v.toNat,by omega⟩
  refine (zE0 3 n w (by omega) (by omega)).mono ?_
  rintro e w1 ⟨s,rfl,hsl,hx⟩
  exact ⟨s,rfl,by rw [hsl,zd4,if_neg h0];rfl,hx⟩
def qe2 (w:World) (ga:Option Addr) (n:Nat) (g:Nat->Int):Prop:=∀ i,i < n->∃ b off,ga=some ⟨b,off,none⟩/\b < w.heap.size/\w.cell? ⟨b,off+i,none⟩=some (.int .i64 (g i)) /\ -9223372036854775808<=g i/\g i<=9223372036854775807
theorem qC9 (v:Int):(zd4 v).length<=5:=by
 unfold zd4
 split
 ·have:=zh6 3 (-v).toNat;simp;omega
 ·have:=zh6 3 v.toNat;omega
def zW3 (l:List UInt8):Bool:=l == [102] || l == [103] || l == [61] || l == [60] || l == [60,61] || l == zj4 || l == zk7 || l == wOr || l == [61,62] || l == zn3
inductive KT (w:World) (D:Nat->Prop):Nat->Nd->Prop
 | num {t:Nat} {v:Int} (hb:w.heap[t]?=some (.cells #[.string ⟨#[35]⟩,.slice none 0 0,.int .i64 v] 72)) (hd:D t) (h1 : -1000<=v) (h2:v<=1000):KT w D t (.mk 4 ByteArray.empty v [])
 | name {t:Nat} {wd:ByteArray} {by_:Int} (hb:w.heap[t]?=some (.cells #[.string wd,.slice none 0 0,.int .i64 by_] 72)) (hd:D t) (hw:wd.toList=[120]\/wd.toList=[121]\/wd.toList=[122]):KT w D t (.mk 3 wd 0 [])
 | node {t:Nat} {k:Int} {wd:ByteArray} {pv:Value} {by_:Int} {ps:List Nd} {ts:List Nat} (hb:w.heap[t]?=some (.cells #[.string wd,pv,.int .i64 by_] 72)) (hd:D t) (hk:k=1\/k=2\/k=3) (hw:zW3 wd.toList=true) (hne:ps ≠ [])
   (how:w.ownsRow 0 31 1 pv ps.length (ts.map fun a=>.pointer (some ⟨a,0,none⟩))) (hD:∀ g,pv.ownBlock=some g->D g) (hn:ts.length=ps.length) (hp:∀ (i:Nat) (a:Nat) (p:Nd),ts[i]?=some a->ps[i]?=some p->KT w D a p):KT w D t (.mk k wd 0 ps)
 | le {t:Nat} {wd:ByteArray} {pv:Value} {v:Int} {ps:List Nd} {ts:List Nat} (hb:w.heap[t]?=some (.cells #[.string wd,pv,.int .i64 v] 72)) (hd:D t) (hw:wd.toList=wLe) (h1 : -1000<=v) (h2:v<=1000) (hne:ps ≠ [])
   (how:w.ownsRow 0 31 1 pv ps.length (ts.map fun a=>.pointer (some ⟨a,0,none⟩))) (hD:∀ g,pv.ownBlock=some g->D g) (hn:ts.length=ps.length) (hp:∀ (i:Nat) (a:Nat) (p:Nd),ts[i]?=some a->ps[i]?=some p->KT w D a p):KT w D t (.mk 2 wd 0 (ps++[.mk 5 ByteArray.empty v []]))
theorem KT.ext {S D:Nat->Prop} {w w':World} {t:Nat} {nd:Nd} (h:KT w D t nd) (hx:q9 S w w') (hS:∀ k,k < w.heap.size->D k->¬S k):KT w' D t nd:=by
 induction h with
 | num hb hd h1 h2=>exact .num ((hx.block _ (z8 hb) (hS _ (z8 hb) hd)).trans hb) hd h1 h2
 | name hb hd hw=>exact .name ((hx.block _ (z8 hb) (hS _ (z8 hb) hd)).trans hb) hd hw
 | node hb hd hk hw hne how hD hn hp ih=>exact .node ((hx.block _ (z8 hb) (hS _ (z8 hb) hd)).trans hb) hd hk hw hne (z7 how hx (fun k hk=>hS k (how.lt k hk).2 (hD k hk))) hD hn ih
 | le hb hd hw h1 h2 hne how hD hn hp ih=>exact .le ((hx.block _ (z8 hb) (hS _ (z8 hb) hd)).trans hb) hd hw h1 h2 hne (z7 how hx (fun k hk=>hS k (how.lt k hk).2 (hD k hk))) hD hn ih
theorem KT.mono {D D':Nat->Prop} {w:World} {t:Nat} {nd:Nd} (h:KT w D t nd) (hD':∀ k,k < w.heap.size->D k->D' k):KT w D' t nd:=by
 induction h with
 | num hb hd h1 h2=>exact .num hb (hD' _ (z8 hb) hd) h1 h2
 | name hb hd hw=>exact .name hb (hD' _ (z8 hb) hd) hw
 | node hb hd hk hw hne how hD hn hp ih=>exact .node hb (hD' _ (z8 hb) hd) hk hw hne how (fun g hg=>hD' g (how.lt g hg).2 (hD g hg)) hn ih
 | le hb hd hw h1 h2 hne how hD hn hp ih=>exact .le hb (hD' _ (z8 hb) hd) hw h1 h2 hne how (fun g hg=>hD' g (how.lt g hg).2 (hD g hg)) hn ih
structure RW (w:World) (rb:Nat) (ga:Option Addr) (n cap k:Nat) (g:Nat->Int):Prop where
 blk:w.heap[rb]?=some (.cells #[.slice ga n cap,.int .i64 k] 30)
 few:k<=n
 gaps:qe2 w ga n g
 off:∀ b off,0 < n->ga=some ⟨b,off,none⟩->¬b=rb
theorem qe2.ext {S:Nat->Prop} {w w':World} {ga:Option Addr} {n:Nat} {g:Nat->Int} (h:qe2 w ga n g) (hx:q9 S w w') (hS:∀ b off,0 < n->ga=some ⟨b,off,none⟩->¬S b):qe2 w' ga n g:=by
 intro i hi
 obtain ⟨b,off,e,hb,hc,h1,h2⟩:=h i hi
 exact ⟨b,off,e,Nat.lt_of_lt_of_le hb hx.size,(hx.cell (p:=⟨b,off+i,none⟩) hb (hS b off (by omega) e)).trans hc,h1,h2⟩
theorem RW.ext {S:Nat->Prop} {w w':World} {rb:Nat} {ga:Option Addr} {n cap k:Nat} {g:Nat->Int} (h:RW w rb ga n cap k g) (hx:q9 S w w') (h1:¬S rb) (hS:∀ b off,0 < n->ga=some ⟨b,off,none⟩->¬S b):RW w' rb ga n cap k g :=
 ⟨(hx.block _ (z8 h.blk) h1).trans h.blk,h.few,h.gaps.ext hx hS,h.off⟩
set_option maxHeartbeats 400000 in
theorem zf1 {w:World} {rb:Nat} {ga:Option Addr} {n cap k:Nat} {g:Nat->Int} (h:RW w rb ga n cap k g) (hn:n<=maxLen) (m:Int) (hm:0 < m/\m<=100) :
  Calls Tryz.prog 26 #[.pointer (some ⟨rb,0,none⟩),.int .i64 m] w fun e w'=>∃ (v:Int) (k':Nat),e=.returned (.int .i64 v)/\0<=v/\v < m/\RW w' rb ga n cap k' g/\q9 (fun i=>i=rb) w w':=by
 have c0:=z6 h.blk 0
 have c1:=z6 h.blk 1
 have f1:=Q0 h.blk 1
 have hkn:=h.few
 have H:=q8 h
 unfold maxLen at hn
 have HX:=q8 (q9.refl (fun i=>i=rb) w)
 by_cases hk:k < n
 ·obtain ⟨b,off,rfl,hbl,hc,hg1,hg2⟩:=h.gaps k hk
  have hne:¬b=rb:=h.off b off (by omega) rfl
  have hlt:(k:Int) < (n:Int):=by omega
  clear h
  go_enter Tryz.func26,Tryz.ntmps26
  go_wp2_with fail
  go_region
  all_goals
   go_wp2_with fail
   obtain ⟨W,hW⟩:∃ W,(w.setCell ⟨rb,1,none⟩ (.int .i64 ((k:Int)+1))).drew=W:=⟨_,rfl⟩
   have hxs:q9 (fun i=>i=rb) w W:=by rw [<- hW];exact ((q9.refl (fun i=>i=rb) w).setCell (p:=⟨rb,1,none⟩) (fun _=>rfl) _).drew
   have kb2:W.heap[rb]?=some (.cells #[.slice (some ⟨b,off,none⟩) n cap,.int .i64 ((k:Int)+1)] 30):=by rw [<- hW];exact Y0 H.out.blk 1 _
   have hc2:W.cell? ⟨b,off+k,none⟩=some (.int .i64 (g k)):=(hxs.cell (p:=⟨b,off+k,none⟩) hbl hne).trans hc
   have d0:=z6 kb2 0
   have d1:=z6 kb2 1
   have hwk:IntKind.i64.wrap ((k:Int)+1 - 1)=(k:Int):=by rw [IntKind.wrap_i64];omega
   have hwk2:(k:Int)+1 - 1=(k:Int):=by omega
   have hwk3:IntKind.i64.wrap (k:Int)=(k:Int):=by rw [IntKind.wrap_i64];omega
   have HPK:=q8 (qf3 (w:=W.drew) (g k) m ⟨hg1,hg2⟩ ⟨hm.1,by omega⟩)
   have HXS:=q8 hxs
   have KB2:=q8 kb2
   rw [hW]
   clear hW hxs kb2 c0 c1 f1 hc
   go_region_law (go_simp;go_wp2_with (go_at_call 21;refine HPK.out.mono ?_;rintro e w2 ⟨rfl,hx2⟩;have HX2:=q8 hx2;clear hx2))
   all_goals
    go_wp2_with fail
    go_ret
    have hp:=qf2 (g k) m hm.1
    have hx2:q9 (fun _=>False) W w2:=((q9.refl (fun _=>False) W).drew).trans HX2.out
    have hx:=HXS.out.trans (hx2.mono (fun _ _ f=>f.elim))
    refine ⟨_,k+1,rfl,hp.1,hp.2,⟨?_,by omega,H.out.gaps.ext hx (fun b' o' e1 e=>H.out.off b' o' e1 e),H.out.off⟩,hx⟩
    exact (hx2.block _ (z8 KB2.out) (fun f=>f)).trans KB2.out
 ·have hge:¬(k:Int) < (n:Int):=by omega
  have hge2:(n:Int)<=(k:Int):=by omega
  clear h
  go_enter Tryz.func26,Tryz.ntmps26
  go_wp2_with fail
  go_region
  all_goals
   go_wp2_with fail
   go_ret
   exact ⟨0,k,rfl,Int.le_refl _,hm.1,H.out.ext ((q9.refl (fun _=>False) w).drew) (fun f=>f) (fun _ _ _ _ f=>f),HX.out.drew⟩
theorem zw0 {l:List UInt8} (h:zW3 l=true) (b:List UInt8) (hb:zW3 b=false):(l == b)=false:=by
 rw [beq_eq_false_iff_ne]
 rintro rfl
 rw [hb] at h
 exact absurd h (by decide)
def WrT (w:World) (t:Nat) (nd:Nd):Prop:=∀ w',q9 (fun _=>False) w w'->(Z1 nd).length<=4000->Calls Tryz.prog 16 #[.pointer (some ⟨t,0,none⟩)] w' fun e w2=>∃ s:ByteArray,e=.returned (.string s)/\s.toList=Z1 nd/\q9 (fun _=>False) w' w2
set_option maxHeartbeats 400000 in
theorem jj4 {w:World} {t:Nat} {v:Int} {pv:Value} (hb:w.heap[t]?=some (.cells #[.string ⟨#[35]⟩,pv,.int .i64 v] 72)) (h1 : -1000<=v) (h2:v<=1000):WrT w t (.mk 4 ByteArray.empty v []):=by
 intro w' hx _
 have kb:=(hx.block _ (z8 hb) (fun f=>f)).trans hb
 have c0:=z6 kb 0
 have c2:=z6 kb 2
 have HD:=q8 (zE1 v w' h1 h2)
 clear hx hb kb
 go_enter Tryz.func16,Tryz.ntmps16
 go_wp2_with fail
 refine HD.out.mono ?_
 rintro e w1 ⟨s,rfl,hsl,hx⟩
 have HSL:=q8 hsl
 have HX1:=q8 hx
 clear hsl hx
 all_goals
  go_wp2_with fail
  go_ret
  exact ⟨s,rfl,by rw [HSL.out,Z1,if_neg (by decide),U2,if_pos (by decide)],HX1.out⟩
set_option maxHeartbeats 400000 in
theorem qY8 {w:World} {t:Nat} {wd:ByteArray} {pv:Value} {by_:Int} (hb:w.heap[t]?=some (.cells #[.string wd,pv,.int .i64 by_] 72)) (hw:wd.toList=[120]\/wd.toList=[121]\/wd.toList=[122]):WrT w t (.mk 3 wd 0 []):=by
 intro w' hx _
 have kb:=(hx.block _ (z8 hb) (fun f=>f)).trans hb
 have c0:=z6 kb 0
 have HX:=q8 (q9.refl (fun _=>False) w')
 clear hx hb kb
 have e0:Z1 (.mk 3 wd 0 [])=wd.toList:=by rw [Z1,if_neg (by decide),U2,if_neg (by decide)]
 have E0:=q8 e0
 have hw':wd=⟨#[120]⟩\/wd=⟨#[121]⟩\/wd=⟨#[122]⟩:=by
  rcases hw with e | e | e
  ·exact .inl (x9 (by rw [e,ByteArray.toList_eq]))
  ·exact .inr (.inl (x9 (by rw [e,ByteArray.toList_eq])))
  ·exact .inr (.inr (x9 (by rw [e,ByteArray.toList_eq])))
 clear hw e0
 rcases hw' with rfl | rfl | rfl
 all_goals
  go_enter Tryz.func16,Tryz.ntmps16
  go_wp2_with fail
  go_ret
  exact ⟨_,rfl,E0.out.symm,HX.out⟩
theorem zK6:∀ (ps:List Nd) (p:Nd),Q9 (ps++[p])=Q9 ps++32 :: Z1 p
 | [],p=>by simp [Q9]
 | q :: ps,p=>by rw [List.cons_append,Q9,Q9,zK6 ps p];simp
def zg8 (wd:ByteArray) (ps:List Nd) (i:Nat):List UInt8:=40 :: wd.toList++Q9 (ps.take i)
theorem qD0 (wd:ByteArray) (ps:List Nd) (i:Nat):(zg8 wd ps i).length<=1+wd.size+(Q9 ps).length:=by
 have:=qj4 ps i
 rw [<- Z3]
 simp [zg8]
 omega
theorem qo0 (wd:ByteArray) (ps:List Nd):((⟨#[40]⟩:ByteArray)++wd).toList=zg8 wd ps 0:=by
 rw [za5]
 simp [zg8,Q9,ByteArray.toList_eq]
theorem qo1 {wd:ByteArray} {ps:List Nd} {i:Nat} {p:Nd} {s u:ByteArray} (hp:ps[i]?=some p) (hs:s.toList=zg8 wd ps i) (hu:u.toList=Z1 p):(s++(⟨#[32]⟩:ByteArray)++u).toList=zg8 wd ps (i+1):=by
 rw [za5,za5,hs,hu,zg8,zg8,zN7 hp]
 simp [ByteArray.toList_eq]
theorem qo2 {w:World} {e size n:Nat} {v:Value} {xs:List Value} (h:w.ownsRow 0 e size v n xs):∃ a cap,v=.slice a n cap:=by
 rcases h.2 with ⟨e,e0⟩ | ⟨g,cap,cur,hv,_⟩
 ·exact ⟨none,0,by rw [e,e0]⟩
 ·exact ⟨_,cap,hv⟩
def leT (wd:ByteArray) (v:Int):List UInt8:=if wd.toList=wLe then 32 :: zd4 v else []
theorem qN3 {ps:List Nd} {i:Nat} {p:Nd} (h:ps[i]?=some p):(Z1 p).length<=(Q9 ps).length:=by
 have:=qj4 ps (i+1)
 rw [zN7 h] at this
 simp at this
 omega
set_option maxHeartbeats 400000 in
theorem qv3 {w w':World} {t:Nat} {wd:ByteArray} {pv:Value} {v:Int} {ps:List Nd} {ts:List Nat} (hb:w.heap[t]?=some (.cells #[.string wd,pv,.int .i64 v] 72)) (hw:zW3 wd.toList=true\/wd.toList=wLe /\ -1000<=v/\v<=1000)
  (how:w.ownsRow 0 31 1 pv ps.length (ts.map fun a=>.pointer (some ⟨a,0,none⟩))) (hn:ts.length=ps.length) (hp:∀ (i:Nat) (a:Nat) (p:Nd),ts[i]?=some a->ps[i]?=some p->WrT w a p) (hx:q9 (fun _=>False) w w') (hlen:wd.size+(Q9 ps).length<=4000) :
  Calls Tryz.prog 16 #[.pointer (some ⟨t,0,none⟩)] w' fun e w2=>∃ s:ByteArray,e=.returned (.string s)/\s.toList=zg8 wd ps ps.length++leT wd v++[41]/\q9 (fun _=>False) w' w2:=by
 have kb:=(hx.block _ (z8 hb) (fun f=>f)).trans hb
 have c0:=z6 kb 0
 have c1:=z6 kb 1
 have c2:=z6 kb 2
 have q:(wd.toList == [35])=false/\(wd.toList == [120])=false/\(wd.toList == [121])=false/\(wd.toList == [122])=false/\(wd.toList == [116,114,117,101])=false/\(wd.toList == [102,97,108,115,101])=false:=by
  rcases hw with hw | ⟨hw,_⟩
  ·exact ⟨zw0 hw _ rfl,zw0 hw _ rfl,zw0 hw _ rfl,zw0 hw _ rfl,zw0 hw _ rfl,zw0 hw _ rfl⟩
  ·rw [hw];decide
 obtain ⟨q1,q2,q3,q4,q5,q6⟩:=q
 obtain ⟨a,cap,rfl⟩:=qo2 how
 have hl3:=qI3 ps
 have HX:=q8 hx
 have HOW:=q8 how
 have HPP:=q8 hp
 have HHN:=q8 hn
 have HHW:=q8 hw
 have KB:=q8 kb
 clear hp hx how hb kb hw hn
 go_enter Tryz.func16,Tryz.ntmps16
 go_wp2_with fail
 go_loopw [4,5] (fun vs vi wr=>∃ (j:Nat) (s:ByteArray),j<=ps.length/\vs=.string s/\vi=.int .i64 j/\s.toList=zg8 wd ps j/\q9 (fun _=>False) w' wr) (fun _ vi _=>ps.length - (intOf vi).toNat)
 case atStart=>exact ⟨0,_,Nat.zero_le _,rfl,rfl,qo0 wd ps,q9.refl _ _⟩
 case round =>
  clear c0 c1 c2
  obtain ⟨j,s,hj,rfl,rfl,hs,hxr⟩:=hrel
  have kb:=(hxr.block _ (z8 KB.out) (fun f=>f)).trans KB.out
  have c0:=z6 kb 0
  have c1:=z6 kb 1
  have c2:=z6 kb 2
  have hsz:s.size<=1+wd.size+(Q9 ps).length:=by rw [<- Z3,hs];exact qD0 _ _ _
  have HS:=q8 hs
  have HXR:=q8 hxr
  clear kb hs hxr
  have l1:¬9223372036854775807 < s.size+1:=by omega
  by_cases hlt:j < ps.length
  ·obtain ⟨p,hp⟩:∃ p,ps[j]?=some p:=⟨_,List.getElem?_eq_getElem hlt⟩
   obtain ⟨ta,hta⟩:∃ ta,ts[j]?=some ta:=⟨_,List.getElem?_eq_getElem (by rw [HHN.out];exact hlt)⟩
   obtain ⟨g,hsa,hgl⟩:∃ g,a=some ⟨g,0,none⟩/\g < w.heap.size:=by
    rcases HOW.out.2 with ⟨_,e⟩ | ⟨g,cap,cur,hv,_,hg,_⟩
    ·omega
    ·simp at hv;exact ⟨g,hv.1,z8 hg⟩
   subst hsa
   have hlI:(j:Int) < (ps.length:Int):=by omega
   have e0:wr.cell? ⟨g,j,none⟩=some (.pointer (some ⟨ta,0,none⟩)):=by
    rw [(HX.out.trans HXR.out).cell (p:=⟨g,j,none⟩) hgl (fun f=>f),HOW.out.cellAt j (by omega)]
    simp [hta]
   have hpl:=qN3 hp
   have HI:=q8 (HPP.out j ta p hta hp wr (HX.out.trans HXR.out) (by omega))
   have HP:=q8 hp
   clear hp hta
   go_wp2_with fail
   refine HI.out.mono ?_
   rintro e w3 ⟨u,rfl,hu,hx3⟩
   have hus:u.size<=(Q9 ps).length:=by rw [<- Z3,hu];exact hpl
   have l2:¬9223372036854775807 < s.size+1+u.size:=by omega
   have HU:=q8 hu
   have HX3:=q8 hx3
   clear hu hx3
   all_goals
    go_wp2_with fail
    go_roundw
    case measure=>simp [intOf];omega
    case rel=>exact ⟨j+1,_,by omega,rfl,by go_num,qo1 HP.out HS.out HU.out,HXR.out.trans HX3.out⟩
  ·have hge:¬(j:Int) < (ps.length:Int):=by omega
   obtain rfl:j=ps.length:=by omega
   rcases HHW.out with hw | ⟨hw,h1,h2⟩
   ·have q7:=zw0 hw [108,101] rfl
    have hne:¬wd.toList=wLe:=fun e=>by rw [e] at q7;exact absurd q7 (by decide)
    clear hw
    go_wp2_with fail
    go_ret
    exact ⟨_,rfl,by rw [za5,HS.out,leT,if_neg hne];simp [ByteArray.toList_eq],HXR.out⟩
   ·have q7:(wd.toList == [108,101])=true:=by rw [hw];rfl
    have HD:=q8 (zE1 v wr h1 h2)
    have HW:=q8 hw
    clear hw
    go_wp2_with fail
    refine HD.out.mono ?_
    rintro e w3 ⟨u,rfl,hu,hx3⟩
    have hus:u.size<=5:=by rw [<- Z3,hu];exact qC9 v
    have l2:¬9223372036854775807 < s.size+1+u.size:=by omega
    have l3:¬9223372036854775807 < s.size+1+u.size+1:=by omega
    have HU:=q8 hu
    have HX3:=q8 hx3
    clear hu hx3
    all_goals
     go_wp2_with fail
     go_ret
     exact ⟨_,rfl,by rw [za5,za5,za5,HS.out,HU.out,leT,if_pos HW.out];simp [ByteArray.toList_eq],HXR.out.trans HX3.out⟩
theorem qe3 {w:World} {D:Nat->Prop} {t:Nat} {nd:Nd} (h:KT w D t nd):WrT w t nd:=by
 induction h with
 | num hb hd h1 h2=>exact jj4 hb h1 h2
 | name hb hd hw=>exact qY8 hb hw
 | @node t k wd pv by_ ps ts hb hd hk hw hne how hD hn hp ih =>
  have ef:Z1 (.mk k wd 0 ps)=zg8 wd ps ps.length++leT wd by_++[41]:=by
   have hne2:¬wd.toList=wLe:=fun e=>by rw [e] at hw;exact absurd hw (by decide)
   rw [Z1,if_pos (Or.inr (Or.inr hne)),U2,if_neg (by omega),leT,if_neg hne2,zg8,List.take_length]
   simp
  intro w' hx hlen
  rw [ef] at hlen ⊢
  refine qv3 hb (.inl hw) how hn ih hx ?_
  rw [<- Z3]
  simp [zg8] at hlen
  omega
 | @le t wd pv v ps ts hb hd hw h1 h2 hne how hD hn hp ih =>
  have ef:Z1 (.mk 2 wd 0 (ps++[.mk 5 ByteArray.empty v []]))=zg8 wd ps ps.length++leT wd v++[41]:=by
   rw [Z1,if_pos (Or.inr (Or.inl rfl)),U2,if_neg (by decide),leT,if_pos hw,zg8,List.take_length,zK6,Z1,if_neg (by decide),U2,if_pos (by decide)]
   simp
  intro w' hx hlen
  rw [ef] at hlen ⊢
  refine qv3 hb (.inr ⟨hw,h1,h2⟩) how hn ih hx ?_
  rw [<- Z3]
  simp [zg8] at hlen
  omega
structure zE9 (N:List Nm):Prop where
 x:za0 N [120]=some 0
 y:za0 N [121]=some 0
 z:za0 N [122]=some 0
 f:za0 N [102]=some 1
 g:za0 N [103]=some 2
def qe4:Nat->Nat
 | 0=>2
 | d+1=>2 * qe4 d+5
theorem qe5:∀ d,2<=qe4 d
 | 0=>Nat.le_refl _
 | d+1=>by rw [qe4];omega
def TmD (N:List Nm) (d:Nat) (nd:Nd):Prop:=(∀ δ,δ+d<=30->RT N δ nd)/\(Z1 nd).length<=qe4 d
def Mk (w:World) (rb:Nat) (ga:Option Addr) (n cap:Nat) (g:Nat->Int) (R:Nd->Prop) (e:Ending) (w':World):Prop :=
 ∃ t nd k',e=.returned (.pointer (some ⟨t,0,none⟩))/\KT w' (fun i=>w.heap.size<=i) t nd/\R nd/\RW w' rb ga n cap k' g/\q9 (fun i=>i=rb) w w'
section
variable {w w1 W:World} {rb:Nat} {ga:Option Addr} {n cap k:Nat} {g:Nat->Int} {N:List Nm}
theorem zs5 (hN:zE9 N) (d:Nat) (h:RW w1 rb ga n cap k g) (hx:q9 (fun i=>i=rb) w w1) {wd:ByteArray} (hw:wd.toList=[120]\/wd.toList=[121]\/wd.toList=[122]) :
  Mk w rb ga n cap g (TmD N d) (.returned (.pointer (some ⟨w1.heap.size,0,none⟩))) (w1.alloc (.cells #[.string wd,.slice none 0 0,.int .i64 0] 72)):=by
 have ef:Z1 (.mk 3 wd 0 [])=wd.toList:=by rw [Z1,if_neg (by decide),U2,if_neg (by decide)]
 refine ⟨_,.mk 3 wd 0 [],k,rfl,.name (heap_alloc_new _ _) hx.size hw,⟨fun δ _=>.name ?_ ?_,?_⟩,h.ext ((q9.refl (fun _=>False) w1).alloc _) (fun f=>f) (fun _ _ _ _ f=>f),hx.alloc _⟩
 ·rcases hw with e | e | e <;> rw [e] <;> decide
 ·rcases hw with e | e | e <;> rw [e]
  ·exact hN.x
  ·exact hN.y
  ·exact hN.z
 ·have:=qe5 d
  rw [ef]
  rcases hw with e | e | e <;> rw [e] <;> simp <;> omega
theorem qN4 (d:Nat) (h:RW w1 rb ga n cap k g) (hx:q9 (fun i=>i=rb) w w1) {v:Int} (h1 : -2<=v) (h2:v<=2) :
  Mk w rb ga n cap g (TmD N d) (.returned (.pointer (some ⟨w1.heap.size,0,none⟩))) (w1.alloc (.cells #[.string ⟨#[35]⟩,.slice none 0 0,.int .i64 v] 72)):=by
 have ef:Z1 (.mk 4 ByteArray.empty v [])=zd4 v:=by rw [Z1,if_neg (by decide),U2,if_pos (by decide)]
 refine ⟨_,.mk 4 ByteArray.empty v [],k,rfl,.num (heap_alloc_new _ _) hx.size (by omega) (by omega),⟨fun δ _=>.num (by omega) (by omega),?_⟩,h.ext ((q9.refl (fun _=>False) w1).alloc _) (fun f=>f) (fun _ _ _ _ f=>f),hx.alloc _⟩
 have:=qe5 d
 rw [ef]
 have hv:v = -2\/v = -1\/v=0\/v=1\/v=2:=by omega
 have:(zd4 v).length<=2:=by rcases hv with rfl | rfl | rfl | rfl | rfl <;> decide
 omega
theorem qY9 {W:World} {g e:Nat} {x:Value} (h:W.heap[g]?=some (.cells #[x] e)):W.ownsRow 0 e 1 (.slice (some ⟨g,0,none⟩) 1 1) 1 [x] :=
 ⟨rfl,Or.inr ⟨g,1,#[x],rfl,Nat.zero_le _,h,Nat.le_refl _,by decide,rfl,rfl⟩⟩
theorem qv4 {W:World} {g e:Nat} {x y:Value} (h:W.heap[g]?=some (.cells #[x,y] e)):W.ownsRow 0 e 1 (.slice (some ⟨g,0,none⟩) 2 2) 2 [x,y] :=
 ⟨rfl,Or.inr ⟨g,2,#[x,y],rfl,Nat.zero_le _,h,Nat.le_refl _,by decide,rfl,rfl⟩⟩
theorem qN5 {D:Nat->Prop} {a t q:Nat} {p:Nd} {kk:Int} {wd:ByteArray} {by_:Int} (hb:W.heap[t]?=some (.cells #[.string wd,.slice (some ⟨q,0,none⟩) 1 1,.int .i64 by_] 72)) (hq:W.heap[q]?=some (.cells #[.pointer (some ⟨a,0,none⟩)] 31)) (ht:D t) (hqd:D q) (hk:kk=1\/kk=2\/kk=3) (hw:zW3 wd.toList=true) (ha:KT W D a p):KT W D t (.mk kk wd 0 [p]):=by
 refine .node (ts:=[a]) hb ht hk hw (by simp) (qY9 hq) (fun k e=>?_) rfl (fun i b r h1 h2=>?_)
 ·simp [Value.ownBlock] at e;exact e ▸ hqd
 ·match i,h1,h2 with
  | 0,h1,h2=>simp at h1 h2;subst h1 h2;exact ha
theorem qo3 {D:Nat->Prop} {a b t q:Nat} {p r:Nd} {kk:Int} {wd:ByteArray} {by_:Int} (hb:W.heap[t]?=some (.cells #[.string wd,.slice (some ⟨q,0,none⟩) 2 2,.int .i64 by_] 72)) (hq:W.heap[q]?=some (.cells #[.pointer (some ⟨a,0,none⟩),.pointer (some ⟨b,0,none⟩)] 31)) (ht:D t) (hqd:D q) (hk:kk=1\/kk=2\/kk=3) (hw:zW3 wd.toList=true) (ha:KT W D a p) (hbb:KT W D b r):KT W D t (.mk kk wd 0 [p,r]):=by
 refine .node (ts:=[a,b]) hb ht hk hw (by simp) (qv4 hq) (fun k e=>?_) rfl (fun i b r h1 h2=>?_)
 ·simp [Value.ownBlock] at e;exact e ▸ hqd
 ·match i,h1,h2 with
  | 0,h1,h2=>simp at h1 h2;subst h1 h2;exact ha
  | 1,h1,h2=>simp at h1 h2;subst h1 h2;exact hbb
theorem jn1 {D:Nat->Prop} {a b t q:Nat} {p r:Nd} {wd:ByteArray} {v:Int} (hb:W.heap[t]?=some (.cells #[.string wd,.slice (some ⟨q,0,none⟩) 2 2,.int .i64 v] 72)) (hq:W.heap[q]?=some (.cells #[.pointer (some ⟨a,0,none⟩),.pointer (some ⟨b,0,none⟩)] 31)) (ht:D t) (hqd:D q) (hw:wd.toList=wLe) (h1 : -1000<=v) (h2:v<=1000) (ha:KT W D a p) (hbb:KT W D b r):KT W D t (.mk 2 wd 0 [p,r,.mk 5 ByteArray.empty v []]):=by
 refine KT.le (ps:=[p,r]) (ts:=[a,b]) hb ht hw h1 h2 (by simp) (qv4 hq) (fun k e=>?_) rfl (fun i b r h1 h2=>?_)
 ·simp [Value.ownBlock] at e;exact e ▸ hqd
 ·match i,h1,h2 with
  | 0,h1,h2=>simp at h1 h2;subst h1 h2;exact ha
  | 1,h1,h2=>simp at h1 h2;subst h1 h2;exact hbb
theorem qv5 (kk:Int) (wd:ByteArray) (p:Nd) (hk:kk=1\/kk=2\/kk=3):(Z1 (.mk kk wd 0 [p])).length=wd.size+(Z1 p).length+3:=by
 rw [Z1,if_pos (Or.inr (Or.inr (by simp))),U2,if_neg (by omega),Q9,Q9,<- Z3]
 simp
 omega
theorem zW4 (kk:Int) (wd:ByteArray) (p r:Nd) (hk:kk=1\/kk=2\/kk=3):(Z1 (.mk kk wd 0 [p,r])).length=wd.size+(Z1 p).length+(Z1 r).length+4:=by
 rw [Z1,if_pos (Or.inr (Or.inr (by simp))),U2,if_neg (by omega),Q9,Q9,Q9,<- Z3]
 simp
 omega
theorem jj5 (wd:ByteArray) (p r:Nd) (v:Int):(Z1 (.mk 2 wd 0 [p,r,.mk 5 ByteArray.empty v []])).length=wd.size+(Z1 p).length+(Z1 r).length+(zd4 v).length+5:=by
 rw [Z1,if_pos (Or.inr (Or.inr (by simp))),U2,if_neg (by decide),Q9,Q9,Q9,Q9,Z1.eq_1 5,if_neg (by decide),U2,if_pos (by decide),<- Z3]
 simp
 omega
theorem jp8 (hN:zE9 N) {d:Nat} {p:Nd} (h:TmD N d p):TmD N (d+1) (.mk 3 ⟨#[102]⟩ 0 [p]):=by
 have e:(⟨#[102]⟩:ByteArray).toList=[102]:=by rw [ByteArray.toList_eq]
 refine ⟨fun δ hδ=>.app (by rw [e];decide) (by simp) (by rw [e];exact hN.f) (by omega) (fun q hq=>?_),?_⟩
 ·simp at hq;subst hq;exact h.1 _ (by omega)
 ·have:=h.2
  rw [qv5 _ _ _ (by omega),qe4,show (⟨#[102]⟩:ByteArray).size=1 from rfl]
  omega
theorem jp9 (hN:zE9 N) {d:Nat} {p q:Nd} (h:TmD N d p) (h2:TmD N d q):TmD N (d+1) (.mk 3 ⟨#[103]⟩ 0 [p,q]):=by
 have e:(⟨#[103]⟩:ByteArray).toList=[103]:=by rw [ByteArray.toList_eq]
 refine ⟨fun δ hδ=>.app (by rw [e];decide) (by simp) (by rw [e];exact hN.g) (by omega) (fun r hr=>?_),?_⟩
 ·simp at hr
  rcases hr with rfl | rfl
  ·exact h.1 _ (by omega)
  ·exact h2.1 _ (by omega)
 ·have:=h.2
  have:=h2.2
  rw [zW4 _ _ _ _ (by omega),qe4,show (⟨#[103]⟩:ByteArray).size=1 from rfl]
  omega
theorem jn2:((⟨#[120,121,122]⟩:ByteArray).extract 0 1).toList=[120]:=by rw [ByteArray.toList_eq];rfl
theorem jn3:((⟨#[120,121,122]⟩:ByteArray).extract 1 2).toList=[121]:=by rw [ByteArray.toList_eq];rfl
theorem jn4:((⟨#[120,121,122]⟩:ByteArray).extract 2 3).toList=[122]:=by rw [ByteArray.toList_eq];rfl
theorem qe6 (w:World) (o1 o2:Obj):((w.alloc o1).alloc o2).heap[w.heap.size]?=some o1:=by
 have h1:=heap_alloc_new w o1
 exact (((q9.refl (fun _=>False) (w.alloc o1)).alloc o2).block _ (z8 h1) (fun f=>f)).trans h1
theorem qe7 (w:World) (o1 o2:Obj):((w.alloc o1).alloc o2).heap[w.heap.size+1]?=some o2:=by
 have:=heap_alloc_new (w.alloc o1) o2
 simpa using this
theorem jj6 {R:Nd->Prop} {w2:World} {t:Nat} {nd:Nd} (kt:KT w2 (fun i=>w.heap.size<=i) t nd) (hx:q9 (fun i=>i=rb) w w2) (h2:RW w2 rb ga n cap k g) {kk:Int} {wd:ByteArray} (hk:kk=1\/kk=2\/kk=3) (hw:zW3 wd.toList=true) (hR:R (.mk kk wd 0 [nd])) :
  Mk w rb ga n cap g R (.returned (.pointer (some ⟨w2.heap.size+1,0,none⟩))) ((w2.alloc (.cells #[.pointer (some ⟨t,0,none⟩)] 31)).alloc (.cells #[.string wd,.slice (some ⟨w2.heap.size,0,none⟩) 1 1,.int .i64 0] 72)):=by
 have hs:=hx.size
 refine ⟨_,_,k,rfl,qN5 (qe7 _ _ _) (qe6 _ _ _) (by omega) hs hk hw (kt.ext (((q9.refl (fun _=>False) w2).alloc _).alloc _) (fun _ _ _ f=>f)),hR,h2.ext (((q9.refl (fun _=>False) w2).alloc _).alloc _) (fun f=>f) (fun _ _ _ _ f=>f),(hx.alloc _).alloc _⟩
theorem jj7 {R:Nd->Prop} {w2:World} {t u:Nat} {nd nd2:Nd} (kt:KT w2 (fun i=>w.heap.size<=i) t nd) (ku:KT w2 (fun i=>w.heap.size<=i) u nd2) (hx:q9 (fun i=>i=rb) w w2) (h2:RW w2 rb ga n cap k g) {kk:Int} {wd:ByteArray} (hk:kk=1\/kk=2\/kk=3) (hw:zW3 wd.toList=true) (hR:R (.mk kk wd 0 [nd,nd2])) :
  Mk w rb ga n cap g R (.returned (.pointer (some ⟨w2.heap.size+1,0,none⟩))) ((w2.alloc (.cells #[.pointer (some ⟨t,0,none⟩),.pointer (some ⟨u,0,none⟩)] 31)).alloc (.cells #[.string wd,.slice (some ⟨w2.heap.size,0,none⟩) 2 2,.int .i64 0] 72)):=by
 have hs:=hx.size
 have hx2:=((q9.refl (fun _=>False) w2).alloc (.cells #[.pointer (some ⟨t,0,none⟩),.pointer (some ⟨u,0,none⟩)] 31)).alloc (.cells #[.string wd,.slice (some ⟨w2.heap.size,0,none⟩) 2 2,.int .i64 0] 72)
 refine ⟨_,_,k,rfl,qo3 (qe7 _ _ _) (qe6 _ _ _) (by omega) hs hk hw (kt.ext hx2 (fun _ _ _ f=>f)) (ku.ext hx2 (fun _ _ _ f=>f)),hR,h2.ext hx2 (fun f=>f) (fun _ _ _ _ f=>f),(hx.alloc _).alloc _⟩
theorem KT.over {w1 w2:World} {t:Nat} {nd:Nd} {b:Nat} (kt:KT w1 (fun i=>b<=i) t nd) (hx:q9 (fun i=>i=rb) w1 w2) (hb:w.heap.size<=b) (hrb:rb < w.heap.size):KT w2 (fun i=>w.heap.size<=i) t nd :=
 (kt.ext hx (fun k _ e f=>by omega)).mono (fun k _ e=>by omega)
def qv6 (N:List Nm) (rb:Nat) (ga:Option Addr) (n cap:Nat) (g:Nat->Int) (d:Nat):Prop :=
 ∀ (w:World) (k:Nat),RW w rb ga n cap k g->Calls Tryz.prog 27 #[.pointer (some ⟨rb,0,none⟩),.int .i64 d] w (Mk w rb ga n cap g (TmD N d))
set_option maxHeartbeats 400000 in
theorem qD1 (hN:zE9 N) (hn:n<=maxLen):qv6 N rb ga n cap g 0:=by
 intro w k h
 have HN:=q8 hN
 have HC:=q8 (zf1 h hn 8 (by omega))
 clear h hN
 go_enter Tryz.func27,Tryz.ntmps27
 go_wp2_with fail
 refine HC.out.mono ?_
 rintro e w1 ⟨v,k1,rfl,h0,h8,h1,hx1⟩
 have H1:=q8 h1
 have HX1:=q8 hx1
 clear h1 hx1 HC
 have hv:(v=0\/v=1\/v=2\/v=3\/v=4\/v=5)\/v=6\/v=7:=by omega
 clear h0 h8
 rcases hv with hv | hv
 ·rcases hv with rfl | rfl | rfl | rfl | rfl | rfl
  all_goals
   go_wp2_with fail
   go_ret
   first
    | exact zs5 HN.out _ H1.out HX1.out (.inl jn2)
    | exact zs5 HN.out _ H1.out HX1.out (.inr (.inl jn3))
    | exact zs5 HN.out _ H1.out HX1.out (.inr (.inr jn4))
 ·have HC2:=q8 (zf1 H1.out hn 5 (by omega))
  rcases hv with rfl | rfl
  all_goals
   go_wp2_with fail
   refine HC2.out.mono ?_
   rintro e w2 ⟨u,k2,rfl,h0,h5,h2,hx2⟩
   have H2:=q8 h2
   have HX2:=q8 (HX1.out.trans hx2)
   clear h2 hx2
   go_wp2_with fail
   go_ret
   exact qN4 _ H2.out HX2.out (by omega) (by omega)
set_option maxHeartbeats 800000 in
theorem qD2 (hN:zE9 N) (hn:n<=maxLen) {d:Nat} (hd:d<=20) (ih:qv6 N rb ga n cap g d):qv6 N rb ga n cap g (d+1):=by
 intro w k h
 have HN:=q8 hN
 have HI:=q8 ih
 have HC:=q8 (zf1 h hn 8 (by omega))
 have hrb:rb < w.heap.size:=z8 h.blk
 rw [show (((d+1:Nat)):Int)=(d:Int)+1 by omega]
 have hd0:((d:Int)+1 == 0)=false:=by rw [beq_eq_false_iff_ne];omega
 have hd1:(d:Int)+1 - 1=(d:Int):=by omega
 have hd2:IntKind.i64.wrap ((d:Int)+1 - 1)=(d:Int):=by rw [IntKind.wrap_i64];omega
 have hd3:IntKind.i64.wrap (d:Int)=(d:Int):=by rw [IntKind.wrap_i64];omega
 clear h hN ih
 go_enter Tryz.func27,Tryz.ntmps27
 go_wp2_with fail
 refine HC.out.mono ?_
 rintro e w1 ⟨v,k1,rfl,h0,h8,h1,hx1⟩
 have H1:=q8 h1
 have HX1:=q8 hx1
 clear h1 hx1 HC
 have hv:(v=0\/v=1\/v=2)\/v=3\/(v=4\/v=5)\/(v=6\/v=7):=by omega
 clear h0 h8
 rcases hv with hv | rfl | hv | hv
 ·rcases hv with rfl | rfl | rfl
  all_goals
   go_wp2_with fail
   go_ret
   first
    | exact zs5 HN.out _ H1.out HX1.out (.inl jn2)
    | exact zs5 HN.out _ H1.out HX1.out (.inr (.inl jn3))
    | exact zs5 HN.out _ H1.out HX1.out (.inr (.inr jn4))
 ·have HC2:=q8 (HI.out w1 k1 H1.out)
  go_wp2_with fail
  refine HC2.out.mono ?_
  rintro e w2 ⟨t,nd,k2,rfl,kt,hR,h2,hx2⟩
  have KT1:=q8 kt
  have HR:=q8 hR
  have HX2:=q8 (HX1.out.trans hx2)
  have HX12:=q8 hx2
  have HC3:=q8 (HI.out w2 k2 h2)
  clear h2 hx2 kt hR
  go_wp2_with fail
  refine HC3.out.mono ?_
  rintro e w3 ⟨u,nd2,k3,rfl,ku,hR2,h3,hx3⟩
  have KT2:=q8 ku
  have HR2:=q8 hR2
  have H3:=q8 h3
  have HX3:=q8 hx3
  clear h3 hx3 ku hR2
  go_wp2_with fail
  go_ret
  exact jj7 (KT1.out.over (HX3.out) HX1.out.size hrb) (KT2.out.mono (fun i _ e=>Nat.le_trans HX2.out.size e)) (HX2.out.trans HX3.out) H3.out (by omega) (by rw [ByteArray.toList_eq];rfl) (jp9 HN.out HR.out HR2.out)
 ·have HC2:=q8 (HI.out w1 k1 H1.out)
  rcases hv with rfl | rfl
  all_goals
   go_wp2_with fail
   refine HC2.out.mono ?_
   rintro e w2 ⟨t,nd,k2,rfl,kt,hR,h2,hx2⟩
   have KT1:=q8 kt
   have HR:=q8 hR
   have H2:=q8 h2
   have HX2:=q8 (HX1.out.trans hx2)
   have HX12:=q8 hx2
   clear h2 hx2 kt hR
   go_wp2_with fail
   go_ret
   exact jj6 (KT1.out.mono (fun i _ e=>Nat.le_trans HX1.out.size e)) HX2.out H2.out (by omega) (by rw [ByteArray.toList_eq];rfl) (jp8 HN.out HR.out)
 ·have HC2:=q8 (zf1 H1.out hn 5 (by omega))
  rcases hv with rfl | rfl
  all_goals
   go_wp2_with fail
   refine HC2.out.mono ?_
   rintro e w2 ⟨u,k2,rfl,h0,h5,h2,hx2⟩
   have H2:=q8 h2
   have HX2:=q8 (HX1.out.trans hx2)
   clear h2 hx2
   go_wp2_with fail
   go_ret
   exact qN4 _ H2.out HX2.out (by omega) (by omega)
theorem zR3 (hN:zE9 N) (hn:n<=maxLen):∀ d:Nat,d<=20->qv6 N rb ga n cap g d
 | 0,_=>qD1 hN hn
 | d+1,h=>qD2 hN hn (by omega) (zR3 hN hn d (by omega))
end
def qe8:Nat->Nat
 | 0=>27
 | d+1=>2 * qe8 d+7
theorem zW5:∀ d,27<=qe8 d
 | 0=>Nat.le_refl _
 | d+1=>by have:=zW5 d;rw [qe8];omega
def FmD (N:List Nm) (d:Nat) (nd:Nd):Prop:=(∀ δ,δ+d<=25->RF N δ nd)/\(Z1 nd).length<=qe8 d
inductive MF (N:List Nm):Nat->Nd->Prop
 | two {d:Nat} {wd:ByteArray} {a b:Nd} (hw:wd.toList=[61]\/wd.toList=[60]\/wd.toList=[60,61]) (ha:TmD N 1 a) (hb:TmD N 1 b):MF N d (.mk 2 wd 0 [a,b])
 | le {d:Nat} {wd:ByteArray} {a b:Nd} {v:Int} (hw:wd.toList=wLe) (ha:TmD N 1 a) (hb:TmD N 1 b) (h1 : -3<=v) (h2:v<=3):MF N d (.mk 2 wd 0 [a,b,.mk 5 ByteArray.empty v []])
 | not {d:Nat} {wd:ByteArray} {a:Nd} (hw:wd.toList=zj4) (ha:MF N d a):MF N (d+1) (.mk 1 wd 0 [a])
 | con {d:Nat} {wd:ByteArray} {a b:Nd} (hw:wd.toList=zk7\/wd.toList=wOr\/wd.toList=[61,62]\/wd.toList=zn3) (ha:MF N d a) (hb:MF N d b):MF N (d+1) (.mk 1 wd 0 [a,b])
section
variable {w w1 W:World} {rb:Nat} {ga:Option Addr} {n cap k:Nat} {g:Nat->Int} {N:List Nm}
theorem jn5 (d:Nat) {a b:Nd} {wd:ByteArray} (hw:zl9 wd.toList=some (2,3)) (hs:wd.size<=3) (ha:TmD N 1 a) (hb:TmD N 1 b):FmD N d (.mk 2 wd 0 [a,b]):=by
 refine ⟨fun δ hδ=>.two hw (by omega) (ha.1 _ (by omega)) (hb.1 _ (by omega)),?_⟩
 have h1:=ha.2
 have h2:=hb.2
 have h3:=zW5 d
 rw [show qe4 1=9 from rfl] at h1 h2
 rw [zW4 _ _ _ _ (by omega)]
 omega
theorem jn6 (d:Nat) {a b:Nd} {wd:ByteArray} (hw:zl9 wd.toList=some (2,4)) (hs:wd.size<=2) (ha:TmD N 1 a) (hb:TmD N 1 b) {v:Int} (h1 : -3<=v) (h2:v<=3):FmD N d (.mk 2 wd 0 [a,b,.mk 5 ByteArray.empty v []]):=by
 refine ⟨fun δ hδ=>.le hw (by omega) (ha.1 _ (by omega)) (hb.1 _ (by omega)) (by omega) (by omega),?_⟩
 have e1:=ha.2
 have e2:=hb.2
 have e3:=zW5 d
 rw [show qe4 1=9 from rfl] at e1 e2
 have hv:v = -3\/v = -2\/v = -1\/v=0\/v=1\/v=2\/v=3:=by omega
 have:(zd4 v).length<=2:=by rcases hv with rfl | rfl | rfl | rfl | rfl | rfl | rfl <;> decide
 rw [jj5]
 omega
theorem jj8 {d:Nat} {a:Nd} {wd:ByteArray} (hw:zl9 wd.toList=some (1,0)) (hs:wd.size<=3) (ha:FmD N d a):FmD N (d+1) (.mk 1 wd 0 [a]):=by
 refine ⟨fun δ hδ=>.con hw (.inl ⟨rfl,rfl⟩) (by omega) (fun p hp=>?_),?_⟩
 ·simp at hp;subst hp;exact ha.1 _ (by omega)
 ·have e1:=ha.2
  rw [qv5 _ _ _ (by omega),qe8]
  omega
theorem zW6 {d:Nat} {a b:Nd} {wd:ByteArray} {s:Int} (hw:zl9 wd.toList=some (1,s)) (hs1:s=1\/s=2) (hs:wd.size<=3) (ha:FmD N d a) (hb:FmD N d b):FmD N (d+1) (.mk 1 wd 0 [a,b]):=by
 refine ⟨fun δ hδ=>.con hw (hs1.elim (fun e=>.inr (.inl ⟨e,rfl⟩)) (fun e=>.inr (.inr e))) (by omega) (fun p hp=>?_),?_⟩
 ·simp at hp
  rcases hp with rfl | rfl
  ·exact ha.1 _ (by omega)
  ·exact hb.1 _ (by omega)
 ·have e1:=ha.2
  have e2:=hb.2
  rw [zW4 _ _ _ _ (by omega),qe8]
  omega
theorem MF.fm {d:Nat} {nd:Nd} (h:MF N d nd):FmD N d nd:=by
 induction h with
 | two hw ha hb=>exact jn5 _ (by rcases hw with e | e | e <;> rw [e] <;> rfl) (by rw [<- Z3];rcases hw with e | e | e <;> rw [e] <;> decide) ha hb
 | le hw ha hb h1 h2=>exact jn6 _ (by rw [hw];rfl) (by rw [<- Z3,hw];decide) ha hb h1 h2
 | not hw _ ih=>exact jj8 (by rw [hw];rfl) (by rw [<- Z3,hw];decide) ih
 | con hw _ _ iha ihb =>
  have hs:∀ {wd:ByteArray},(wd.toList=zk7\/wd.toList=wOr\/wd.toList=[61,62]\/wd.toList=zn3)->wd.size<=3:=fun hw=>by rw [<- Z3];rcases hw with e | e | e | e <;> rw [e] <;> decide
  rcases hw with e | e | e | e
  ·exact zW6 (s:=2) (by rw [e];rfl) (.inr rfl) (hs (.inl e)) iha ihb
  ·exact zW6 (s:=2) (by rw [e];rfl) (.inr rfl) (hs (.inr (.inl e))) iha ihb
  ·exact zW6 (s:=1) (by rw [e];rfl) (.inl rfl) (hs (.inr (.inr (.inl e)))) iha ihb
  ·exact zW6 (s:=1) (by rw [e];rfl) (.inl rfl) (hs (.inr (.inr (.inr e)))) iha ihb
theorem RW.step {w5 w6:World} {k5:Nat} (h:RW w rb ga n cap k g) (h5:RW w5 rb ga n cap k5 g) (hx:q9 (fun i=>i=rb) w w6) (hb:w6.heap[rb]?=w5.heap[rb]?):RW w6 rb ga n cap k5 g :=
 ⟨hb.trans h5.blk,h5.few,h.gaps.ext hx h.off,h.off⟩
theorem jj9 {R:Nd->Prop} {w5:World} {tb q t u k5:Nat} {wd:ByteArray} {nd nd2:Nd} {v z:Int} (h:RW w rb ga n cap k g) (hx:q9 (fun i=>i=rb) w w5) (htb:w.heap.size<=tb)
  (hb:w5.heap[tb]?=some (.cells #[.string wd,.slice (some ⟨q,0,none⟩) 2 2,.int .i64 z] 72)) (hq:w5.heap[q]?=some (.cells #[.pointer (some ⟨t,0,none⟩),.pointer (some ⟨u,0,none⟩)] 31)) (hqt:tb < q)
  (kt:KT w5 (fun i=>tb < i) t nd) (ku:KT w5 (fun i=>tb < i) u nd2) (h5:RW w5 rb ga n cap k5 g) (hv1 : -3<=v) (hv2:v<=3)
  (hw:(zW3 wd.toList=true/\R (.mk 2 wd 0 [nd,nd2]))\/(wd.toList=wLe/\R (.mk 2 wd 0 [nd,nd2,.mk 5 ByteArray.empty v []]))) :
  Mk w rb ga n cap g R (.returned (.pointer (some ⟨tb,0,none⟩))) (w5.setCell ⟨tb,2,none⟩ (.int .i64 v)):=by
 have hrb:rb < w.heap.size:=z8 h.blk
 have hx6:q9 (fun i=>i=tb) w5 (w5.setCell ⟨tb,2,none⟩ (.int .i64 v)):=(q9.refl (fun i=>i=tb) w5).setCell (p:=⟨tb,2,none⟩) (fun _=>rfl) _
 have hxw:q9 (fun i=>i=rb) w (w5.setCell ⟨tb,2,none⟩ (.int .i64 v)):=hx.setCell (p:=⟨tb,2,none⟩) (fun e=>absurd (show tb < w.heap.size from e) (by omega)) _
 have hb6:=Y0 hb 2 (.int .i64 v)
 have hq6:=(hx6.block q (z8 hq) (by omega)).trans hq
 have kt6:=(kt.ext hx6 (fun i _ e f=>by omega)).mono (D':=fun i=>w.heap.size<=i) (fun i _ e=>by omega)
 have ku6:=(ku.ext hx6 (fun i _ e f=>by omega)).mono (D':=fun i=>w.heap.size<=i) (fun i _ e=>by omega)
 have hrw:=h.step h5 hxw (hx6.block rb (z8 h5.blk) (by omega))
 rcases hw with ⟨h1,h2⟩ | ⟨h1,h2⟩
 ·exact ⟨tb,_,k5,rfl,qo3 hb6 hq6 htb (by omega) (by omega) h1 kt6 ku6,h2,hrw,hxw⟩
 ·exact ⟨tb,_,k5,rfl,jn1 hb6 hq6 htb (by omega) h1 (by omega) (by omega) kt6 ku6,h2,hrw,hxw⟩
theorem zF8 {w3:World} {t m:Nat} {cs:Array Value} {wd:ByteArray} {z:Int} (hb:w3.heap[t]?=some (.cells #[.string wd,.slice none 0 0,.int .i64 z] 72)) :
  ((w3.setCell ⟨t,1,none⟩ (.slice (some ⟨w3.heap.size,0,none⟩) m m)).alloc (.cells cs 31)).heap[t]?=some (.cells #[.string wd,.slice (some ⟨w3.heap.size,0,none⟩) m m,.int .i64 z] 72) /\
  ((w3.setCell ⟨t,1,none⟩ (.slice (some ⟨w3.heap.size,0,none⟩) m m)).alloc (.cells cs 31)).heap[w3.heap.size]?=some (.cells cs 31) /\
  q9 (fun i=>i=t) w3 ((w3.setCell ⟨t,1,none⟩ (.slice (some ⟨w3.heap.size,0,none⟩) m m)).alloc (.cells cs 31)):=by
 have hx:q9 (fun i=>i=t) w3 (w3.setCell ⟨t,1,none⟩ (.slice (some ⟨w3.heap.size,0,none⟩) m m)):=(q9.refl (fun i=>i=t) w3).setCell (p:=⟨t,1,none⟩) (fun _=>rfl) _
 have h1:=Y0 hb 1 (.slice (some ⟨w3.heap.size,0,none⟩) m m)
 have hsz:(w3.setCell ⟨t,1,none⟩ (.slice (some ⟨w3.heap.size,0,none⟩) m m)).heap.size=w3.heap.size:=by simp [World.setCell]
 refine ⟨?_,?_,hx.alloc _⟩
 ·exact (((q9.refl (fun _=>False) _).alloc _).block _ (z8 h1) (fun f=>f)).trans h1
 ·have:=heap_alloc_new (w3.setCell ⟨t,1,none⟩ (.slice (some ⟨w3.heap.size,0,none⟩) m m)) (.cells cs 31)
  rw [hsz] at this
  exact this
theorem RW.parts {w3:World} {t m k3:Nat} {cs:Array Value} {wd:ByteArray} {z:Int} (h:RW w rb ga n cap k g) (h3:RW w3 rb ga n cap k3 g) (hx:q9 (fun i=>i=rb) w w3) (ht:w.heap.size<=t) (hb:w3.heap[t]?=some (.cells #[.string wd,.slice none 0 0,.int .i64 z] 72)) :
  RW ((w3.setCell ⟨t,1,none⟩ (.slice (some ⟨w3.heap.size,0,none⟩) m m)).alloc (.cells cs 31)) rb ga n cap k3 g/\q9 (fun i=>i=rb) w ((w3.setCell ⟨t,1,none⟩ (.slice (some ⟨w3.heap.size,0,none⟩) m m)).alloc (.cells cs 31)):=by
 obtain ⟨_,_,h4⟩:=zF8 (m:=m) (cs:=cs) hb
 have hrb:rb < w.heap.size:=z8 h.blk
 have hx4:q9 (fun i=>i=rb) w ((w3.setCell ⟨t,1,none⟩ (.slice (some ⟨w3.heap.size,0,none⟩) m m)).alloc (.cells cs 31)):=hx.trans' h4 (fun i hi e=>by omega)
 exact ⟨h.step h3 hx4 (h4.block rb (z8 h3.blk) (by omega)),hx4⟩
def qN6 (N:List Nm) (rb:Nat) (ga:Option Addr) (n cap:Nat) (g:Nat->Int) (d:Nat):Prop :=
 ∀ (w:World) (k:Nat),RW w rb ga n cap k g->Calls Tryz.prog 14 #[.pointer (some ⟨rb,0,none⟩),.int .i64 d] w (Mk w rb ga n cap g (MF N d))
def qo4:Obj:=.cells #[.string ⟨#[61]⟩,.string ⟨#[60]⟩,.string ⟨#[60,61]⟩,.string ⟨#[108,101]⟩,.string ⟨#[110,111,116]⟩,.string ⟨#[97,110,100]⟩,.string ⟨#[111,114]⟩,.string ⟨#[61,62]⟩,.string ⟨#[105,102,102]⟩,.string ⟨#[61]⟩] 70
set_option maxRecDepth 100000 in
set_option maxHeartbeats 2000000 in
theorem zR4 (hN:zE9 N) (hn:n<=maxLen) (d:Nat) (hd:d<=20) (ih:∀ d',d=d'+1->qN6 N rb ga n cap g d'):qN6 N rb ga n cap g d:=by
 intro w k h
 have H0:=q8 h
 have hrb:rb < w.heap.size:=z8 h.blk
 have hx0:q9 (fun _=>False) w (w.alloc qo4):=(q9.refl (fun _=>False) w).alloc _
 have kw:=heap_alloc_new w qo4
 have HC:=q8 (zf1 (h.ext hx0 (fun f=>f) (fun _ _ _ _ f=>f)) hn 10 (by omega))
 have HN:=q8 hN
 have HT:=q8 (zR3 (rb:=rb) (ga:=ga) (cap:=cap) (g:=g) hN hn 1 (by omega))
 have HQ:=q8 hn
 have HI:=q8 ih
 have HX0:=q8 hx0
 clear h hN hn hx0 ih
 go_enter Tryz.func14,Tryz.ntmps14
 go_wp2_with fail
 refine HC.out.mono ?_
 rintro e w1 ⟨v,k1,rfl,h0,h10,h1,hx1⟩
 have kw1:=(hx1.block _ (z8 kw) (by omega)).trans kw
 have HX1:Hid (q9 (fun i=>i=rb) w w1):=(HX0.out.mono (fun _ _ f=>f.elim)).trans hx1
 have H1:=q8 h1
 have hs1:w.heap.size < w1.heap.size:=z8 kw1
 unfold qo4 at kw1
 have c0:=z6 kw1 0
 have c1:=z6 kw1 1
 have c2:=z6 kw1 2
 have c3:=z6 kw1 3
 have c4:=z6 kw1 4
 have c5:=z6 kw1 5
 have c6:=z6 kw1 6
 have c7:=z6 kw1 7
 have c8:=z6 kw1 8
 have c9:=z6 kw1 9
 clear h1 hx1 HC kw kw1 HX0
 have hv:((d=0/\(v=0\/v=1\/v=2\/v=3\/v=4\/v=5\/v=6\/v=7\/v=8\/v=9))\/(((d:Int) == 0)=false/\(v=0\/v=1\/v=2\/v=3\/v=9)))\/(∃ d':Nat,d=d'+1)/\(v=4\/(v=5\/v=6\/v=7\/v=8)):=by
  rw [beq_eq_false_iff_ne]
  by_cases h0:d=0
  ·exact .inl (.inl ⟨h0,by omega⟩)
  ·by_cases h4:v=0\/v=1\/v=2\/v=3\/v=9
   ·exact .inl (.inr ⟨by omega,h4⟩)
   ·exact .inr ⟨⟨d - 1,by omega⟩,by omega⟩
 clear h0 h10
 rcases hv with hv | ⟨⟨d',hd'⟩,hv⟩
 ·rcases hv with ⟨rfl,rfl | rfl | rfl | rfl | rfl | rfl | rfl | rfl | rfl | rfl⟩ | ⟨hdb,rfl | rfl | rfl | rfl | rfl⟩
  all_goals
   go_wp2_with fail
   refine (HT.out _ k1 (H1.out.ext ((q9.refl (fun _=>False) w1).alloc _) (fun f=>f) (fun _ _ _ _ f=>f))).mono ?_
   rintro e w2 ⟨ta,na,k2,rfl,kta,hra,h2,hx2⟩
   have kb2:=(hx2.block w1.heap.size (by simp) (by omega)).trans (heap_alloc_new w1 _)
   have hsz2:=hx2.size
   rw [zb1] at hsz2
   have KTA:Hid (KT w2 (fun i=>w1.heap.size < i) ta na):=kta.mono (fun i _ e=>by rw [zb1] at e;exact e)
   have HRA:=q8 hra
   have HX2:Hid (q9 (fun i=>i=rb) w w2):=(HX1.out.alloc _).trans hx2
   have KB2:=q8 kb2
   have HC3:=q8 (HT.out w2 k2 h2)
   clear kta hra h2 hx2 c0 c1 c2 c3 c4 c5 c6 c7 c8 c9 kb2
   go_wp2_with fail
   refine HC3.out.mono ?_
   rintro e w3 ⟨tb,nb,k3,rfl,ktb,hrb3,h3,hx3⟩
   have kb3:=(hx3.block _ (z8 KB2.out) (by omega)).trans KB2.out
   have b0:=z6 kb3 1
   have b1:=Q0 kb3 1
   have hs3:=z8 kb3
   have KB3:=q8 kb3
   have KTB:Hid (KT w3 (fun i=>w1.heap.size < i) tb nb):=ktb.mono (fun i _ e=>by omega)
   have KTA3:Hid (KT w3 (fun i=>w1.heap.size < i) ta na):=KTA.out.ext hx3 (fun i _ e f=>by omega)
   have HRB:=q8 hrb3
   have H3:=q8 h3
   have HX3:Hid (q9 (fun i=>i=rb) w w3):=HX2.out.trans hx3
   clear ktb hrb3 h3 hx3 kb3 HC3
   go_wp2_with fail
   obtain ⟨p1,p2,p3⟩:=zF8 (m:=2) (cs:=#[.pointer (some ⟨ta,0,none⟩),.pointer (some ⟨tb,0,none⟩)]) KB3.out
   obtain ⟨r4,hx4⟩:=H0.out.parts (m:=2) (cs:=#[.pointer (some ⟨ta,0,none⟩),.pointer (some ⟨tb,0,none⟩)]) H3.out HX3.out (Nat.le_of_lt hs1) KB3.out
   refine (zf1 r4 HQ.out 7 (by omega)).mono ?_
   rintro e w5 ⟨v,k5,rfl,hv0,hv7,h5,hx5⟩
   have kb5:=(hx5.block _ (z8 p1) (by omega)).trans p1
   have kq5:=(hx5.block _ (z8 p2) (by omega)).trans p2
   have KTA5:Hid (KT w5 (fun i=>w1.heap.size < i) ta na):=(KTA3.out.ext p3 (fun i _ e f=>by omega)).ext hx5 (fun i _ e f=>by omega)
   have KTB5:Hid (KT w5 (fun i=>w1.heap.size < i) tb nb):=(KTB.out.ext p3 (fun i _ e f=>by omega)).ext hx5 (fun i _ e f=>by omega)
   have HX5:Hid (q9 (fun i=>i=rb) w w5):=hx4.trans hx5
   have H5:=q8 h5
   have KB5:=q8 kb5
   have KQ5:=q8 kq5
   have d0:=z6 kb5 2
   have d1:=Q0 kb5 2
   clear p1 p2 p3 r4 hx4 h5 hx5 kb5 kq5 b0 b1
   go_wp2_with fail
   go_ret
   refine jj9 H0.out HX5.out (Nat.le_of_lt hs1) KB5.out KQ5.out hs3 KTA5.out KTB5.out H5.out (by omega) (by omega) ?_
   first
    | exact .inl ⟨by rw [ByteArray.toList_eq];rfl,.two (by rw [ByteArray.toList_eq];decide) HRA.out HRB.out⟩
    | exact .inr ⟨by rw [ByteArray.toList_eq];rfl,.le (by rw [ByteArray.toList_eq];rfl) HRA.out HRB.out (by omega) (by omega)⟩
 ·have hdb:((d:Int) == 0)=false:=by rw [beq_eq_false_iff_ne];omega
  have hd1:(d:Int) - 1=(d':Int):=by omega
  have hd3:IntKind.i64.wrap (d':Int)=(d':Int):=by rw [IntKind.wrap_i64];omega
  have HF:=q8 (HI.out d' hd')
  rcases hv with rfl | hv
  ·go_wp2_with fail
   refine (HF.out _ k1 (H1.out.ext ((q9.refl (fun _=>False) w1).alloc _) (fun f=>f) (fun _ _ _ _ f=>f))).mono ?_
   rintro e w2 ⟨ta,na,k2,rfl,kta,hra,h2,hx2⟩
   have kb2:=(hx2.block w1.heap.size (by simp) (by omega)).trans (heap_alloc_new w1 _)
   have hs2:=z8 kb2
   have KTA:Hid (KT w2 (fun i=>w1.heap.size < i) ta na):=kta.mono (fun i _ e=>by rw [zb1] at e;exact e)
   have HRA:=q8 hra
   have H2:=q8 h2
   have HX2:Hid (q9 (fun i=>i=rb) w w2):=(HX1.out.alloc _).trans hx2
   have b0:=z6 kb2 1
   have b1:=Q0 kb2 1
   have KB2:=q8 kb2
   clear kta hra h2 hx2 c0 c1 c2 c3 c4 c5 c6 c7 c8 c9 kb2
   go_wp2_with fail
   go_ret
   obtain ⟨p1,p2,p3⟩:=zF8 (m:=1) (cs:=#[.pointer (some ⟨ta,0,none⟩)]) KB2.out
   obtain ⟨r4,hx4⟩:=H0.out.parts (m:=1) (cs:=#[.pointer (some ⟨ta,0,none⟩)]) H2.out HX2.out (Nat.le_of_lt hs1) KB2.out
   subst hd'
   exact ⟨_,_,k2,rfl,qN5 p1 p2 (Nat.le_of_lt hs1) (by omega) (by omega) (by rw [ByteArray.toList_eq];rfl) ((KTA.out.ext p3 (fun i _ e f=>by omega)).mono (fun i _ e=>by omega)),.not (by rw [ByteArray.toList_eq];rfl) HRA.out,r4,hx4⟩
  ·rcases hv with rfl | rfl | rfl | rfl
   all_goals
    go_wp2_with fail
    refine (HF.out _ k1 (H1.out.ext ((q9.refl (fun _=>False) w1).alloc _) (fun f=>f) (fun _ _ _ _ f=>f))).mono ?_
    rintro e w2 ⟨ta,na,k2,rfl,kta,hra,h2,hx2⟩
    have kb2:=(hx2.block w1.heap.size (by simp) (by omega)).trans (heap_alloc_new w1 _)
    have hs2:=z8 kb2
    have KTA:Hid (KT w2 (fun i=>w1.heap.size < i) ta na):=kta.mono (fun i _ e=>by rw [zb1] at e;exact e)
    have HRA:=q8 hra
    have HX2:Hid (q9 (fun i=>i=rb) w w2):=(HX1.out.alloc _).trans hx2
    have KB2:=q8 kb2
    have HC3:=q8 (HF.out w2 k2 h2)
    clear kta hra h2 hx2 c0 c1 c2 c3 c4 c5 c6 c7 c8 c9 kb2
    go_wp2_with fail
    refine HC3.out.mono ?_
    rintro e w3 ⟨tb,nb,k3,rfl,ktb,hrb3,h3,hx3⟩
    have kb3:=(hx3.block _ (z8 KB2.out) (by omega)).trans KB2.out
    have b0:=z6 kb3 1
    have b1:=Q0 kb3 1
    have hs3:=z8 kb3
    have KB3:=q8 kb3
    have KTB:Hid (KT w3 (fun i=>w1.heap.size < i) tb nb):=ktb.mono (fun i _ e=>by omega)
    have KTA3:Hid (KT w3 (fun i=>w1.heap.size < i) ta na):=KTA.out.ext hx3 (fun i _ e f=>by omega)
    have HRB:=q8 hrb3
    have H3:=q8 h3
    have HX3:Hid (q9 (fun i=>i=rb) w w3):=HX2.out.trans hx3
    clear ktb hrb3 h3 hx3 kb3 HC3
    go_wp2_with fail
    go_ret
    obtain ⟨p1,p2,p3⟩:=zF8 (m:=2) (cs:=#[.pointer (some ⟨ta,0,none⟩),.pointer (some ⟨tb,0,none⟩)]) KB3.out
    obtain ⟨r4,hx4⟩:=H0.out.parts (m:=2) (cs:=#[.pointer (some ⟨ta,0,none⟩),.pointer (some ⟨tb,0,none⟩)]) H3.out HX3.out (Nat.le_of_lt hs1) KB3.out
    subst hd'
    refine ⟨_,_,k3,rfl,qo3 (kk:=1) p1 p2 (Nat.le_of_lt hs1) (by omega) (by omega) (by rw [ByteArray.toList_eq];rfl) ((KTA3.out.ext p3 (fun i _ e f=>by omega)).mono (fun i _ e=>by omega)) ((KTB.out.ext p3 (fun i _ e f=>by omega)).mono (fun i _ e=>by omega)),.con (by rw [ByteArray.toList_eq];decide) HRA.out HRB.out,r4,hx4⟩
theorem zR5 (hN:zE9 N) (hn:n<=maxLen):∀ d:Nat,d<=20->qN6 N rb ga n cap g d
 | 0,h=>zR4 hN hn 0 h (fun d' e=>by omega)
 | d+1,h=>zR4 hN hn (d+1) h (fun d' e=>by obtain rfl:d=d':=(by omega);exact zR5 hN hn d (by omega))
theorem qD3 (hN:zE9 N) (hn:n<=maxLen) (d:Nat) (hd:d<=20) (w:World) (k:Nat) (h:RW w rb ga n cap k g):Calls Tryz.prog 14 #[.pointer (some ⟨rb,0,none⟩),.int .i64 d] w (Mk w rb ga n cap g (FmD N d)):=by
 refine (zR5 hN hn d hd w k h).mono ?_
 rintro e w' ⟨t,nd,k',h1,h2,h3,h4⟩
 exact ⟨t,nd,k',h1,h2,h3.fm,h4⟩
end
theorem jq0:zE9 zc6:=⟨by kernel_rfl,by kernel_rfl,by kernel_rfl,by kernel_rfl,by kernel_rfl⟩
section
variable {w w0 w1 w':World} {sb:Nat} {N:List Nm} {L:List (Nd × Int)} {d:Nat} {G D:Nat->Prop} {ga:Option Addr} {n cap:Nat} {g:Nat->Int}
theorem qZ0 (h:qe2 w ga n g) (hx:q9 (fun _=>False) w w1):RW (w1.alloc (.cells #[.slice ga n cap,.int .i64 0] 30)) w1.heap.size ga n cap 0 g:=by
 refine ⟨heap_alloc_new _ _,Nat.zero_le _,h.ext (hx.alloc _) (fun _ _ _ _ f=>f),fun b off hn e=>?_⟩
 obtain ⟨b',off',e',hb,_⟩:=h 0 hn
 rw [e] at e'
 simp at e'
 have:=hx.size
 omega
theorem jn7 {Q:List Nd} {s:ByteArray} {nd:Nd} (hs:s.toList=Z1 nd) (hR:RF N 0 nd) (hl:(Z1 nd).length<=600) :
  (zu5 (V5 N Q s).1 (V5 N Q s).2.1=0/\(V5 N Q s).2.2=some nd)\/(zu5 (V5 N Q s).1 (V5 N Q s).2.1=1/\(V5 N Q s).2.2=none):=by
 obtain ⟨us,e⟩:=qz3 hR
 have hsz:s.size<=600:=by rw [<- Z3,hs];exact hl
 unfold V5
 rw [if_neg (by omega),hs,e]
 simp only
 split
 ·exact .inr ⟨rfl,rfl⟩
 ·split
  ·exact .inr ⟨rfl,rfl⟩
  ·split
   ·exact .inr ⟨rfl,rfl⟩
   ·exact .inl ⟨rfl,rfl⟩
theorem qv7 (h:KS w0 G w sb N L d) {s:ByteArray} {nd:Nd} (hs:s.toList=Z1 nd) (hR:RF N 0 nd) (hl:(Z1 nd).length<=600) (hhd:za3 w0) :
  Calls Tryz.prog 15 #[.pointer (some ⟨sb,0,none⟩),.string s] w fun e w'=>∃ (i:Int) (o:Option Nd),e=.returned (.int .i64 i)/\(i=0/\o=some nd\/i=1/\o=none)/\KP w0 G w sb N (L++zn7 o d) d w':=by
 have hsz:s.size<=600:=by rw [<- Z3,hs];exact hl
 refine (qO6 h s (by unfold maxLen;omega) hhd).mono ?_
 rintro e w' ⟨rfl,hp⟩
 exact ⟨_,_,rfl,jn7 hs hR hl,hp⟩
theorem qN7 (i:Nat):zc6.filter (fun x=>decide (x.fr < (i:Int)+1))=zc6:=by
 refine List.filter_eq_self.2 (fun x hx=>?_)
 have:x.fr=0:=by simp [zc6] at hx;rcases hx with rfl | rfl | rfl | rfl | rfl <;> rfl
 simp [this]
end
def zR6:ByteArray:=⟨#[109,111,114,101]⟩
def kB1:ByteArray:=⟨#[40,60,32,109,111,114,101,32,40,102,32,109,111,114,101,41,41]⟩
def kB2:ByteArray:=⟨#[40,60,32,109,111,114,101,32,120,41]⟩
def zC1:List Nm:=zc6++[⟨zR6,0,1⟩]
def nB1:Nd:=.mk 2 ⟨#[60]⟩ 0 [.mk 3 zR6 0 [],.mk 3 kF 0 [.mk 3 zR6 0 []]]
theorem jq1:zE9 zC1:=⟨by kernel_rfl,by kernel_rfl,by kernel_rfl,by kernel_rfl,by kernel_rfl⟩
theorem zR7:J8 zc6 zR6.toList 0=0:=by kernel_rfl
theorem qo5:U7 zc6 ((1:Nat):Int) zR6 0=zC1:=by rw [U7,if_pos zR7];rfl
theorem qN9:ja3 (X8 zC1 kB1.toList)=some nB1:=by kernel_rfl
def jk0 {α:Type}:Rs α->Option (Int × Int)
 | .no e p=>some (e,p)
 | .ok _ _=>none
theorem qe9:jk0 (X8 zc6 kB2.toList)=some (3,3):=by kernel_rfl
theorem jn8 (Q:List Nd):V5 zc6 Q kB2=(3,3,none):=by
 unfold V5
 rw [if_neg (by decide)]
 cases h:X8 zc6 kB2.toList with
 | no e p =>
  have:=qe9
  rw [h] at this
  simp [jk0] at this
  simp [this]
 | ok nd us =>
  have:=qe9
  rw [h] at this
  simp [jk0] at this
theorem jn9 {Q:List Nd} (hQ:Q.length < 20):(V5 zC1 Q kB1).1=0/\((V5 zC1 Q kB1).2.1=0\/(V5 zC1 Q kB1).2.1=9\/(V5 zC1 Q kB1).2.1=10):=by
 obtain ⟨us,e⟩:=ja4 qN9
 unfold V5
 rw [if_neg (by decide),e]
 simp only
 rw [if_neg (by omega)]
 split
 ·exact ⟨rfl,.inr (.inl rfl)⟩
 ·split
  ·exact ⟨rfl,.inr (.inr rfl)⟩
  ·exact ⟨rfl,.inl rfl⟩
def AtF (F:Int) (L:List (Nd × Int)):Prop:=∀ p∈L,p.2=F
theorem AtF.nil {F:Int}:AtF F []:=fun _ h=>by cases h
theorem AtF.opt {F:Int} {L:List (Nd × Int)} (h:AtF F L) (o:Option Nd):AtF F (L++zn7 o F):=by
 intro p hp
 rcases List.mem_append.1 hp with hp | hp
 ·exact h p hp
 ·cases o with
  | none=>cases hp
  | some nd=>simp [zn7] at hp;subst hp;rfl
theorem qO0 (o:Option Nd) (F:Int):(zn7 o F).length<=1:=by cases o <;> simp [zn7]
theorem qO1 {L M:List (Nd × Int)} (hL:AtF ((0:Nat):Int) L) (hM:AtF ((1:Nat):Int) M):(L++M).filter (fun x=>decide (x.2 < ((0:Nat):Int)+1))=L:=by
 rw [List.filter_append,List.filter_eq_self.2 (fun p hp=>by rw [hL p hp];decide),List.filter_eq_nil_iff.2 (fun p hp=>by rw [hM p hp];decide),List.append_nil]
theorem qO2:zC1.filter (fun x=>decide (x.fr < ((0:Nat):Int)+1))=zc6:=by
 unfold zC1
 rw [List.filter_append,qN7]
 simp
section
variable {w w0 w1:World} {sb rb:Nat} {N:List Nm} {L:List (Nd × Int)} {d:Nat} {sa:Option Addr} {n cap k:Nat} {g:Nat->Int}
structure BK (w0:World) (w:World) (sb:Nat) (N:List Nm) (L:List (Nd × Int)) (d rb:Nat) (sa:Option Addr) (n cap k:Nat) (g:Nat->Int):Prop where
 ks:KS w0 (fun i=>i=rb) w sb N L d
 rw_:RW w rb sa n cap k g
 hi:w0.heap.size<=rb
theorem BK.kp {N':List Nm} {L':List (Nd × Int)} {d':Nat} (h:BK w0 w sb N L d rb sa n cap k g) (hp:KP w0 (fun i=>i=rb) w sb N' L' d' w1) (hg:qe2 w0 sa n g):BK w0 w1 sb N' L' d' rb sa n cap k g :=
 ⟨hp.1,⟨(hp.2.block _ (z8 h.rw_.blk) (fun f=>f.2 rfl)).trans h.rw_.blk,h.rw_.few,hg.ext hp.1.1 (fun _ _ _ _ f=>f),h.rw_.off⟩,h.hi⟩
theorem BK.form (h:BK w0 w sb N L d rb sa n cap k g) (hN:zE9 N) (hn:n<=maxLen) :
  Calls Tryz.prog 14 #[.pointer (some ⟨rb,0,none⟩),.int .i64 2] w fun e w1=>∃ (t:Nat) (nd:Nd) (k':Nat),e=.returned (.pointer (some ⟨t,0,none⟩))/\KT w1 (fun i=>w.heap.size<=i) t nd/\FmD N 2 nd/\BK w0 w1 sb N L d rb sa n cap k' g:=by
 refine (qD3 hN hn 2 (by omega) w k h.rw_).mono ?_
 rintro e w1 ⟨t,nd,k',rfl,kt,hf,h1,hx⟩
 exact ⟨t,nd,k',rfl,kt,hf,h.ks.ext hx (fun _ e=>e) (fun _ e=>by rw [e];exact h.hi),h1,h.hi⟩
theorem BK.quiet (h:BK w0 w sb N L d rb sa n cap k g) (hx:q9 (fun _=>False) w w1):BK w0 w1 sb N L d rb sa n cap k g :=
 ⟨h.ks.quiet hx,h.rw_.ext hx (fun f=>f) (fun _ _ _ _ f=>f),h.hi⟩
end
set_option maxRecDepth 100000 in
set_option maxHeartbeats 1000000 in
theorem qD5 (w:World) (sa:Option Addr) (n cap:Nat) (g:Nat->Int) (many:Int) (hmany : -9223372036854775808<=many/\many<=9223372036854775807) (hn:n<=maxLen) (hg:qe2 w sa n g) (hhd:za3 w) (hpt:Y2 w) :
  Calls Tryz.prog 9 #[.slice sa n cap,.int .i64 many] w fun e w'=>e=.returned (.bool true)/\q9 (fun _=>False) w w':=by
 have HHD:=q8 hhd
 have HPT:=q8 hpt
 have HG:=q8 hg
 have HN:=q8 hn
 have HC1:=q8 (qo8 w hhd hpt)
 have hp4:=qf2 many 4 (by omega)
 obtain ⟨m,hm⟩:∃ m:Nat,zE2 many 4=m:=⟨(zE2 many 4).toNat,by omega⟩
 have hm4:m < 4:=by omega
 have HM:=q8 hm
 clear hhd hpt hg hn hp4 hm
 go_enter Tryz.func9,Tryz.ntmps9
 go_wp2_with fail
 refine HC1.out.mono ?_
 rintro e w1 ⟨sb,rfl,h1⟩
 have H1:=q8 h1
 have HR:=q8 (qZ0 (cap:=cap) HG.out h1.1)
 clear h1 HC1
 obtain ⟨W1,hW1⟩:∃ W,w1.alloc (.cells #[.slice sa n cap,.int .i64 0] 30)=W:=⟨_,rfl⟩
 have HXA:Hid (q9 (fun _=>False) w1 W1):=by rw [<- hW1];exact (q9.refl (fun _=>False) w1).alloc _
 have hsz:W1.heap.size=w1.heap.size+1:=by rw [<- hW1];simp
 rw [hW1] at HR
 have HB:Hid (BK w W1 sb zc6 [] 0 w1.heap.size sa n cap 0 g):=⟨H1.out.guard HXA.out (fun k hk=>.inr (by omega)),HR.out,H1.out.1.size⟩
 go_wp2_with fail
 obtain ⟨rb,hrb⟩:∃ rb,w1.heap.size=rb:=⟨_,rfl⟩
 rw [hrb] at HB hsz ⊢
 clear hW1 HR H1 HXA
 refine (qf3 many 4 hmany (by omega)).mono ?_
 rintro e w2 ⟨rfl,hx2⟩
 rw [HM.out]
 have HB2:=q8 (HB.out.quiet hx2)
 clear hx2 HB HM
 go_wp2_with fail
 go_loopw [7] (fun v wr=>∃ (j:Nat) (L:List (Nd × Int)) (k:Nat),v=.int .i64 j/\L.length+j<=3/\AtF ((0:Nat):Int) L/\BK w wr sb zc6 L 0 rb sa n cap k g) (fun v _=>(intOf v).toNat)
 case atStart=>exact ⟨m,[],0,rfl,by simp;omega,AtF.nil,HB2.out⟩
 case round =>
  clear HB2
  obtain ⟨j,L,k,rfl,hj,hL,hB⟩:=hrel
  have HB:=q8 hB
  have HL:=q8 hL
  clear hB hL
  by_cases hj0:0 < j
  ·have HC2:=q8 (HB.out.form jq0 HN.out)
   have hj1:(0:Int) < (j:Int):=by omega
   go_wp2_with fail
   refine HC2.out.mono ?_
   rintro e w3 ⟨t,nd,k3,rfl,kt,hf,h3⟩
   have hl:=hf.2
   rw [show qe8 2=129 from rfl] at hl
   have HF:Hid (RF zc6 0 nd):=hf.1 0 (by omega)
   have H3:=q8 h3
   have HC3:=q8 (qe3 kt w3 (q9.refl _ _) (by omega))
   clear kt hf h3 HC2
   go_wp2_with fail
   refine HC3.out.mono ?_
   rintro e w4 ⟨s,rfl,hs,hx4⟩
   have H4:=q8 (H3.out.quiet hx4)
   have HC4:=q8 (qv7 H4.out.ks hs HF.out (by omega) HHD.out)
   clear hs hx4 HC3
   go_wp2_with fail
   refine HC4.out.mono ?_
   rintro e w5 ⟨i,o,rfl,hi,h5⟩
   have hi2:(i == 2)=false:=by rcases hi with ⟨rfl,_⟩ | ⟨rfl,_⟩ <;> rfl
   have H5:=q8 h5
   clear hi h5 HC4
   go_wp2_with fail
   go_roundw
   case measure=>simp [intOf];omega
   case rel=>exact ⟨j - 1,L++zn7 o ((0:Nat):Int),k3,by go_num,by have:=qO0 o ((0:Nat):Int);rw [List.length_append];omega,HL.out.opt o,H4.out.kp H5.out HG.out⟩
  ·have hj1:¬(0:Int) < (j:Int):=by omega
   have hL3:L.length<=3:=by omega
   have HC2:=q8 (qv8 HB.out.ks)
   go_wp2_with fail
   refine HC2.out.mono ?_
   rintro e w3 ⟨rfl,h3⟩
   have HB3:=q8 (HB.out.kp h3 HG.out)
   have HC3:=q8 (zy9 h3.1 HPT.out)
   clear h3 HC2
   go_wp2_with fail
   refine HC3.out.mono ?_
   rintro e w4 ⟨was,rfl,hwas,h4⟩
   have HW:=q8 hwas
   have HB4:=q8 (HB3.out.kp h4 HG.out)
   have HC4:=q8 (qO4 h4.1 (by omega))
   clear hwas h4 HC3
   go_wp2_with fail
   refine HC4.out.mono ?_
   rintro e w5 ⟨rfl,h5⟩
   have HB5:=q8 (HB4.out.kp h5 HG.out)
   have hd:=zR8 h5.1 zR6 0 (by unfold maxLen;decide)
   rw [zR7,show ((0+1:Nat):Int)=((1:Nat):Int) from rfl,qo5] at hd
   have HC5:=q8 hd
   clear hd h5 HC4
   go_wp2_with fail
   refine HC5.out.mono ?_
   rintro e w6 ⟨rfl,h6⟩
   have HB6:=q8 (HB5.out.kp h6 HG.out)
   have hb1:=jn9 (Q:=L.map Prod.fst) (by simp;omega)
   have ha:=zq0 h6.1 kB1 (by unfold maxLen;decide) HHD.out
   obtain ⟨q,hq⟩:∃ q,V5 zC1 (L.map Prod.fst) kB1=q:=⟨_,rfl⟩
   rw [hq] at hb1 ha
   obtain ⟨q1,q2,q3⟩:=q
   obtain ⟨rfl,hq2⟩:q1=0/\(q2=0\/q2=9\/q2=10):=hb1
   have HC6:=q8 ha
   clear ha hq h6 HC5
   go_wp2_with fail
   refine HC6.out.mono ?_
   rintro e w7 ⟨rfl,h7⟩
   have HB7:=q8 (HB6.out.kp h7 HG.out)
   clear h7 HC6
   have HC7:=q8 (zf1 HB7.out.rw_ HN.out 3 (by omega))
   go_wp2_with fail
   refine HC7.out.mono ?_
   rintro e w8 ⟨v,k8,rfl,hv0,hv3,h8,hx8⟩
   have HB8:Hid (BK w w8 sb zC1 (L++zn7 q3 ((1:Nat):Int)) 1 rb sa n cap k8 g):=⟨HB7.out.ks.ext hx8 (fun _ e=>e) (fun _ e=>by rw [e];exact HB7.out.hi),h8,HB7.out.hi⟩
   obtain ⟨m2,rfl⟩:∃ m2:Nat,v=m2:=⟨v.toNat,by omega⟩
   clear h8 hx8 HC7
   have HQ2:=q8 hq2
   clear hq2
   go_wp2_with fail
   go_loopw [16] (fun v wr=>∃ (j:Nat) (M:List (Nd × Int)) (k:Nat),v=.int .i64 j/\j<=3/\AtF ((1:Nat):Int) M/\BK w wr sb zC1 (L++M) 1 rb sa n cap k g) (fun v _=>(intOf v).toNat)
   case atStart=>exact ⟨m2+1,zn7 q3 ((1:Nat):Int),k8,by congr 1;omega,by omega,AtF.nil.opt q3,HB8.out⟩
   case round =>
    clear HB8 HB7 HB6 HB5 HB4 HB3 HB
    obtain ⟨j,M,k,rfl,hj,hM,hB⟩:=hrel
    have HB:=q8 hB
    have HMM:=q8 hM
    clear hB hM
    by_cases hj0:0 < j
    ·have HC2:=q8 (HB.out.form jq1 HN.out)
     have hj1:(0:Int) < (j:Int):=by omega
     go_wp2_with fail
     refine HC2.out.mono ?_
     rintro e w9 ⟨t,nd,k9,rfl,kt,hf,h9⟩
     have hl:=hf.2
     rw [show qe8 2=129 from rfl] at hl
     have HF:Hid (RF zC1 0 nd):=hf.1 0 (by omega)
     have H9:=q8 h9
     have HC3:=q8 (qe3 kt w9 (q9.refl _ _) (by omega))
     clear kt hf h9 HC2
     go_wp2_with fail
     refine HC3.out.mono ?_
     rintro e w10 ⟨s,rfl,hs,hx10⟩
     have H10:=q8 (H9.out.quiet hx10)
     have HC4:=q8 (qv7 H10.out.ks hs HF.out (by omega) HHD.out)
     clear hs hx10 HC3
     go_wp2_with fail
     refine HC4.out.mono ?_
     rintro e w11 ⟨i,o,rfl,hi,h11⟩
     have hi2:(i == 2)=false:=by rcases hi with ⟨rfl,_⟩ | ⟨rfl,_⟩ <;> rfl
     have H11:=q8 (H10.out.kp h11 HG.out)
     have HC5:=q8 (zy9 h11.1 HPT.out)
     clear hi h11 HC4
     go_wp2_with fail
     refine HC5.out.mono ?_
     rintro e w12 ⟨is,rfl,his,h12⟩
     have H12:=q8 (H11.out.kp h12 HG.out)
     have hiw:is=true->was=true:=fun e=>HW.out.2 ((his.1 e).fewer (fun f hf=>by
      rw [List.append_assoc,List.map_append]
      exact List.mem_append_left _ hf))
     clear his h12 HC5
     cases is with
     | false =>
      clear hiw
      go_wp2_with fail
      go_roundw
      case measure=>simp [intOf];omega
      case rel=>exact ⟨j - 1,M++zn7 o ((1:Nat):Int),k9,by go_num,by omega,HMM.out.opt o,by rw [<- List.append_assoc];exact H12.out⟩
     | true =>
      obtain rfl:was=true:=hiw rfl
      clear hiw
      go_wp2_with fail
      go_roundw
      case measure=>simp [intOf];omega
      case rel=>exact ⟨j - 1,M++zn7 o ((1:Nat):Int),k9,by go_num,by omega,HMM.out.opt o,by rw [<- List.append_assoc];exact H12.out⟩
    ·have hj1:¬(0:Int) < (j:Int):=by omega
     have HC2:=q8 (jf4 HB.out.ks)
     go_wp2_with fail
     refine HC2.out.mono ?_
     rintro e w9 ⟨rfl,h9⟩
     have h9':KS w (fun i=>i=rb) w9 sb zc6 L 0:=by
      have e:=h9.1
      rw [qO2,qO1 HL.out HMM.out] at e
      exact e
     have HC3:=q8 (qv8 h9')
     clear h9 h9' HC2
     go_wp2_with fail
     refine HC3.out.mono ?_
     rintro e w10 ⟨rfl,h10⟩
     have HC4:=q8 (zy9 h10.1 HPT.out)
     clear h10 HC3
     go_wp2_with fail
     refine HC4.out.mono ?_
     rintro e w11 ⟨is,rfl,his,h11⟩
     obtain rfl:is=was:=by rw [Bool.eq_iff_iff];exact his.trans HW.out.symm
     have ha:=zq0 h11.1 kB2 (by unfold maxLen;decide) HHD.out
     rw [jn8] at ha
     have HC5:=q8 ha
     clear his h11 ha HC4
     go_wp2_with fail
     refine HC5.out.mono ?_
     rintro e w12 ⟨rfl,h12⟩
     have HX:=q8 h12.1.1
     clear h12 HC5
     rcases HQ2.out with rfl | rfl | rfl <;> cases is
     all_goals
      go_wp2_with fail
      go_ret
      exact ⟨by simp,HX.out⟩
end Go.Proofs.YtegbdaffhpiacaaGreatDoor
