/- A theory in memory: the iterator over the arguments of twins; A theory in memory: are the arguments of twins known to be equal?; A theory in memory: mapped; A range over a function that keeps what it has still to give in a block of its own, and whose rounds are never left early; Sets of marks: All, as a function that a range goes over; Plain: what is fixed of a theory, made of the program's rows of terms and atoms. -/
import Derived.Test.YtegbdaffhpiacaaGreatDoorChn28
import Derived.RangeFuncNested
import Derived.RangeFuncBound
import Derived.RangeFuncCalls
import Derived.RangeFuncLeaves
import Derived.Shelf.Abstract
import Derived.OwnWalkIn
import Derived.TacticsInMore
import Derived.LoopNIn
import Derived.LoopIn
import Derived.Stop.RegionWithIn
namespace Go.Proofs.YtegbdaffhpiacaaGreatDoor
open Go.RowKit Ar
attribute [local go_sem] Oper.semAt_some
def argsI (x:TKey):List Int:=[x.a0,x.a1,x.a2]
abbrev PN2 (m:Nat) := { z:Nat × Nat // z.1 < m/\z.2 < m }
structure Prs {m:Nat} (x y:TKey) (ar:Nat) (zs:List (PN2 m)):Prop where
 arn:x.ar=ar
 le:ar<=3
 len:zs.length=ar
 get:∀ (k:Nat) (z:PN2 m),zs[k]?=some z->(argsI x)[k]?=some (z.1.1:Int)/\(argsI y)[k]?=some (z.1.2:Int)
theorem take_snoc2 {α:Type} {l:List α} {k:Nat} {z : α} (h:l[k]?=some z):l.take (k+1)=l.take k++[z]:=by
 rw [List.take_add_one,h];rfl
theorem one_way {J Jx:World->Prop} {K:World->Prop} {e:Ending} {W:World} (h:(e=.returned (.bool true)/\J W/\K W)\/(e=.returned (.bool false)/\Jx W)):∃ ok:Bool,e=.returned (.bool ok)/\(ok=true->J W/\K W)/\(ok=false->Jx W):=by
 rcases h with ⟨h1,h2⟩ | ⟨h1,h2⟩
 ·exact ⟨true,h1,fun _=>h2,fun e=>by simp at e⟩
 ·exact ⟨false,h1,fun e=>by simp at e,fun _=>h2⟩
def KpPQ (p q:Nat) (W W':World):Prop:=W'.heap[p]?=W.heap[p]?/\W'.heap[q]?=W.heap[q]?
set_option maxRecDepth 100000 in
set_option maxHeartbeats 2000000 in
theorem args1_in {m:Nat} (l p q:Nat) (x y:TKey) (ar:Nat) (zs:List (PN2 m)) (hP:Prs x y ar zs) (n:Nat) (hn:1<=n) (J Jx:List (PN2 m)->World->Prop)
  (hY:∀ pre z W,J pre W->pre.length < ar->YieldAt Fence.wide (n - 1) Tryz.prog l #[.int .i64 z.1.1,.int .i64 z.1.2] W fun e W' =>
   (e=.returned (.bool true)/\J (pre++[z]) W'/\KpPQ p q W W')\/(e=.returned (.bool false)/\Jx (pre++[z]) W'))
  (hdr:∀ pre W,J pre W->J pre W.drew)
  (W:World) (kp:W.heap[p]?=some (.cells (tkArr x) 145)) (kq:W.heap[q]?=some (.cells (tkArr y) 145)) (h0:J [] W) :
  CallsIn Fence.wide n Tryz.prog 275 #[.func (.yield l) #[] #[],.pointer (some ⟨p,0,none⟩),.pointer (some ⟨q,0,none⟩)] W fun e W'=>(∃ v,e=.returned v) /\
   ((∃ ys,ys=zs/\J ys W')\/(∃ pre,(∃ k,k<=ar/\pre=zs.take k)/\Jx pre W')):=by
 have har3:=hP.le
 have p1:W.cell? ⟨p,1,none⟩=some (.int .i64 ar):=by rw [<- hP.arn];exact cell_of_block kp 1
 refine callsIn_of_wp Tryz.func275 rfl trivial ?_ rfl
 simp only [Tryz.ntmps275,List.size_toArray,List.length_cons,List.length_nil,Nat.reduceAdd,Nat.reduceSub,Array.replicate_succ,Array.replicate_zero,List.push_toArray,List.append_toArray,List.nil_append,List.cons_append]
 gi_wp2
 gi_loopw [8] (fun i wr=>∃ k:Nat,k<=ar/\i=.int .i64 k/\J (zs.take k) wr/\KpPQ p q W wr) (fun i _=>ar - (intOf i).toNat)
 case atStart=>exact ⟨0,Nat.zero_le _,rfl,h0,rfl,rfl⟩
 case round =>
  obtain ⟨k,hk,rfl,hJs,hkp⟩:=hrel
  have kp2:=hkp.1.trans kp
  have kq2:=hkp.2.trans kq
  by_cases hlt:k < ar
  ·obtain ⟨z,hz⟩:∃ z,zs[k]?=some z:=⟨_,List.getElem?_eq_getElem (by rw [hP.len];exact hlt)⟩
   obtain ⟨hza,hzb⟩:=hP.get k z hz
   have hc:k=0\/k=1\/k=2:=by omega
   rcases hc with rfl | rfl | rfl <;> simp only [argsI,List.getElem?_cons_zero,List.getElem?_cons_succ,Option.some.injEq] at hza hzb
   ·have a1:wr.cell? ⟨p,2,none⟩=some (.int .i64 z.1.1):=by rw [<- hza];exact cell_of_block kp2 2
    have b1:wr.cell? ⟨q,2,none⟩=some (.int .i64 z.1.2):=by rw [<- hzb];exact cell_of_block kq2 2
    obtain ⟨fn,tmps,assign,body,hy,hR⟩:=hY _ z wr.drew (hdr _ _ hJs) (by rw [List.length_take,hP.len];omega)
    have HP2:=hide hkp
    have HZ:=hide hz
    clear hza hzb hz
    gi_wp2
    gi_region_with (refine hR.mono ?_;rintro e W3 hh;obtain ⟨ok,rfl,hJ3,hJx3⟩:=one_way (J:=J (zs.take 0++[z])) (Jx:=Jx (zs.take 0++[z])) (K:=KpPQ p q wr.drew) hh;have HJ3:=hide hJ3;have HJX3:=hide hJx3;clear hh hJ3 hJx3)
    all_goals
     cases ok with
     | true =>
      gi_wp2
      go_roundw
      case rel=>exact ⟨1,by omega,by go_num,by rw [take_snoc2 HZ.out];exact (HJ3.out rfl).1,((HJ3.out rfl).2.1).trans HP2.out.1,((HJ3.out rfl).2.2).trans HP2.out.2⟩
      case measure=>simp [intOf];omega
     | false =>
      gi_wp2
      refine bodyPost_ret (results_none rfl _ _ _) rfl ?_
      exact ⟨⟨_,rfl⟩,.inr ⟨_,⟨1,by omega,rfl⟩,by rw [take_snoc2 HZ.out];exact HJX3.out (by simp)⟩⟩
   ·have a1:wr.cell? ⟨p,3,none⟩=some (.int .i64 z.1.1):=by rw [<- hza];exact cell_of_block kp2 3
    have b1:wr.cell? ⟨q,3,none⟩=some (.int .i64 z.1.2):=by rw [<- hzb];exact cell_of_block kq2 3
    obtain ⟨fn,tmps,assign,body,hy,hR⟩:=hY _ z wr.drew (hdr _ _ hJs) (by rw [List.length_take,hP.len];omega)
    have HP2:=hide hkp
    have HZ:=hide hz
    clear hza hzb hz
    gi_wp2
    gi_region_with (refine hR.mono ?_;rintro e W3 hh;obtain ⟨ok,rfl,hJ3,hJx3⟩:=one_way (J:=J (zs.take 1++[z])) (Jx:=Jx (zs.take 1++[z])) (K:=KpPQ p q wr.drew) hh;have HJ3:=hide hJ3;have HJX3:=hide hJx3;clear hh hJ3 hJx3)
    all_goals
     cases ok with
     | true =>
      gi_wp2
      go_roundw
      case rel=>exact ⟨2,by omega,by go_num,by rw [take_snoc2 HZ.out];exact (HJ3.out rfl).1,((HJ3.out rfl).2.1).trans HP2.out.1,((HJ3.out rfl).2.2).trans HP2.out.2⟩
      case measure=>simp [intOf];omega
     | false =>
      gi_wp2
      refine bodyPost_ret (results_none rfl _ _ _) rfl ?_
      exact ⟨⟨_,rfl⟩,.inr ⟨_,⟨2,by omega,rfl⟩,by rw [take_snoc2 HZ.out];exact HJX3.out (by simp)⟩⟩
   ·have a1:wr.cell? ⟨p,4,none⟩=some (.int .i64 z.1.1):=by rw [<- hza];exact cell_of_block kp2 4
    have b1:wr.cell? ⟨q,4,none⟩=some (.int .i64 z.1.2):=by rw [<- hzb];exact cell_of_block kq2 4
    obtain ⟨fn,tmps,assign,body,hy,hR⟩:=hY _ z wr.drew (hdr _ _ hJs) (by rw [List.length_take,hP.len];omega)
    have HP2:=hide hkp
    have HZ:=hide hz
    clear hza hzb hz
    gi_wp2
    gi_region_with (refine hR.mono ?_;rintro e W3 hh;obtain ⟨ok,rfl,hJ3,hJx3⟩:=one_way (J:=J (zs.take 2++[z])) (Jx:=Jx (zs.take 2++[z])) (K:=KpPQ p q wr.drew) hh;have HJ3:=hide hJ3;have HJX3:=hide hJx3;clear hh hJ3 hJx3)
    all_goals
     cases ok with
     | true =>
      gi_wp2
      go_roundw
      case rel=>exact ⟨3,by omega,by go_num,by rw [take_snoc2 HZ.out];exact (HJ3.out rfl).1,((HJ3.out rfl).2.1).trans HP2.out.1,((HJ3.out rfl).2.2).trans HP2.out.2⟩
      case measure=>simp [intOf];omega
     | false =>
      gi_wp2
      refine bodyPost_ret (results_none rfl _ _ _) rfl ?_
      exact ⟨⟨_,rfl⟩,.inr ⟨_,⟨3,by omega,rfl⟩,by rw [take_snoc2 HZ.out];exact HJX3.out (by simp)⟩⟩
  ·obtain rfl:k=ar:=by omega
   gi_wp2
   go_end0
   exact ⟨⟨_,rfl⟩,.inl ⟨_,by rw [<- hP.len,List.take_length],hJs⟩⟩
theorem grown_drew (W:World):W.grownBy W.drew none:=⟨rfl,rfl,rfl,Nat.le_refl _,fun _ _ _=>rfl⟩
theorem args_stops {m:Nat} {w:World} {p q:Nat} {x y:TKey} {ar:Nat} {zs:List (PN2 m)} (hP:Prs x y ar zs) (kp:w.heap[p]?=some (.cells (tkArr x) 145)) (kq:w.heap[q]?=some (.cells (tkArr y) 145)) (n:Nat) (hn:1<=n) :
  SeqStopsK Fence.wide n Tryz.prog 275 #[.pointer (some ⟨p,0,none⟩),.pointer (some ⟨q,0,none⟩)] (fun z:PN2 m=>#[.int .i64 z.1.1,.int .i64 z.1.2]) (KpPQ p q) (fun ys=>ys=zs) (fun pre=>∃ k,k<=ar/\pre=zs.take k) ar w:=by
 intro l J Jx W hW hJ hJx hY h0
 exact args1_in l p q x y ar zs hP n hn J Jx hY (fun pre W1 h=>hJ pre W1 _ none h (grown_drew W1) (fun r e=>by cases e)) W ((hW.block p (block_lt kp)).trans kp) ((hW.block q (block_lt kq)).trans kq) h0
theorem kpq_t {p q:Nat} {A B C:World} (h:KpPQ p q A B) (k:KpPQ p q B C):KpPQ p q A C:=⟨k.1.trans h.1,k.2.trans h.2⟩
theorem kpq_b {p q:Nat} {w:World} (hp:p < w.heap.size) (hq:q < w.heap.size) (W:World) (l:Nat) (o o':Obj) (hl:w.heap.size<=l) (_:W.heap[l]?=some o) (_:o.isCells=false) (_:o.isWalk=false):KpPQ p q W (W.putObj l o') :=
 ⟨World.putObj_heap_other (by omega),World.putObj_heap_other (by omega)⟩
end Go.Proofs.YtegbdaffhpiacaaGreatDoor

namespace Go.Proofs.YtegbdaffhpiacaaGreatDoor
open Go.RowKit Ar
attribute [local go_sem] Oper.semAt_some
theorem block_kept {W W':World} {row:Option Nat} {k:Nat} {C:Array Value} {t:TypeId} (h:W.heap[k]?=some (.cells C t)) (hg:W.grownBy W' row) (hr:∀ r,row=some r->∃ o:Obj,W.heap[r]?=some o/\o.isCells=false):W'.heap[k]?=some (.cells C t):=by
 refine (hg.block k (block_lt h) (fun e=>?_)).trans h
 obtain ⟨o,h1,h2⟩:=hr k (by first | exact e | exact e.symm)
 rw [h] at h1
 cases h1
 simp [Obj.isCells] at h2
theorem Ext.toBelow {w w':World} (h:Ext (fun _=>False) w w'):Below w.heap.size w w':=⟨h.os,h.tape,h.output,h.size,fun k hk=>h.block k hk (fun f=>f)⟩
theorem Ext.ofBelow {w w':World} (h:Below w.heap.size w w'):Ext (fun _=>False) w w':=⟨h.os,h.tape,h.output,h.size,fun k hk _=>h.block k hk⟩
theorem below_ext {B:Nat} {w w':World} (h:Ext (fun _=>False) w w') (hB:B<=w.heap.size):Below B w w':=⟨h.os,h.tape,h.output,h.size,fun k hk=>h.block k (by omega) (fun f=>f)⟩
theorem KeepsOthers.of_ext {w w':World} (h:Ext (fun _=>False) w w'):KeepsOthers w w' :=
 ⟨h.size,fun k _ hk _=>(h.block k (Array.getElem?_eq_some_iff.1 hk).1 (fun f=>f)).trans hk⟩
section
variable {w:World} {hb g:Nat} {c:ThV} {TK:List TKey} {AK:List PA} {tw:List (Nat × Nat)} {As:List (PA × Bool)} {TT:List Tab} {X:Tab} {F:Fx}
def KE (T:Tb) {m:Nat} (z:PN2 m):Prop:=T.by_ z.1.1 z.1.2<=0/\T.by_ z.1.2 z.1.1<=0
structure SmI {m:Nat} (T:Tb) (V:(Nat->Int)->Prop) (H:Nat->(Nat->Int)->Prop) (K:Nat) (pre:List (PN2 m)) (mk:M3):Prop where
 ke:∀ z∈pre,KE T z
 bl:Below3 K mk
 eq:∀ v,V v->Hs H mk v->∀ z∈pre,v z.1.1=v z.1.2
theorem SmI.snoc {m:Nat} {far:Int} {T:Tb} {V:(Nat->Int)->Prop} {H:Nat->(Nat->Int)->Prop} {K:Nat} {pre:List (PN2 m)} {mk:M3} (h:SmI T V H K pre mk) {z:PN2 m} {n:Nat} (hI:TInv n far V H K T) (hm:m<=n) (hz:KE T z):SmI T V H K (pre++[z]) (mk.or ((T.why z.1.1 z.1.2).or (T.why z.1.2 z.1.1))):=by
 have h1:z.1.1 < n:=by have:=z.2.1;omega
 have h2:z.1.2 < n:=by have:=z.2.2;omega
 refine ⟨fun u hu=>?_,h.bl.or ((hI.mks _ _ h1 h2).or (hI.mks _ _ h2 h1)),fun v hv hh u hu=>?_⟩
 ·rcases List.mem_append.1 hu with e | e
  ·exact h.ke u e
  ·simp at e;subst e;exact hz
 ·rw [Hs.or,Hs.or] at hh
  rcases List.mem_append.1 hu with e | e
  ·exact h.eq v hv hh.1 u e
  ·simp at e
   subst e
   have a1:=hI.snd _ _ h1 h2 v hv hh.2.1
   have a2:=hI.snd _ _ h2 h1 v hv hh.2.2
   have a3:=hz.1
   have a4:=hz.2
   omega
set_option maxRecDepth 100000 in
set_option maxHeartbeats 2000000 in
theorem same_in (h:ThR w hb g c TK AK tw As (TT++[X])) {a b:Nat} {x y:TKey} (hx:TK[a]?=some x) (hy:TK[b]?=some y) (hT:TK.length<=12) (hl:TT.length<=500) {ar:Nat} {zs:List (PN2 TK.length)} (hP:Prs x y ar zs) {far:Int} {V:(Nat->Int)->Prop} {H:Nat->(Nat->Int)->Prop} {K:Nat} (hI:TInv (TK.length+1) far V H K X.t) :
  CallsIn Fence.wide 5 Tryz.prog 274 #[.pointer (some ⟨hb,0,none⟩),.agg #[.int .i64 a,.int .i64 b]] w fun e w'=>∃ (mk:M3) (same:Bool),e=.returned (.tuple #[.agg #[.int .u64 mk.a.toNat,.int .u64 mk.b.toNat,.int .u64 mk.c.toNat],.bool same])/\Below w.heap.size w w'/\(same=true->SmI X.t V H K zs mk)/\(same=false->∃ z∈zs,¬KE X.t z):=by
 have HH:=hide h
 have HP:=hide hP
 have HI:=hide hI
 have HARG:Hid (∀ W,Ext (fun _=>False) w W->Calls Tryz.prog 271 #[.pointer (some ⟨hb,0,none⟩),.agg #[.int .i64 a,.int .i64 b]] W fun e w'=>∃ p q,e=.returned (.func (.func 275) #[] #[.pointer (some ⟨p,0,none⟩),.pointer (some ⟨q,0,none⟩)])/\W.heap.size<=p/\W.heap.size<=q/\Ext (fun _=>False) W w'/\w'.heap[p]?=some (.cells (tkArr x) 145)/\w'.heap[q]?=some (.cells (tkArr y) 145)) :=
  fun W hxw=>args_any (h.ext hxw (fun _ _ f=>f)) hx hy
 have HNOW:Hid (∀ W,Ext (fun _=>False) w W->Calls Tryz.prog 259 #[.pointer (some ⟨hb,0,none⟩)] W fun e w'=>e=.returned (.pointer (some ⟨g,TT.length * 681,none⟩))/\w' = W.drew):=by
  intro W hxw
  have:=now_any (h.ext hxw (fun _ _ f=>f)) (by simp) (by simp;omega)
  rw [List.length_append,List.length_singleton,Nat.add_sub_cancel] at this
  exact this
 obtain ⟨C,kg,hTab,_⟩:=h.tab
 have HEQ:Hid (∀ (W:World) (z:PN2 TK.length),Ext (fun _=>False) w W->Calls Tryz.prog 272 #[.pointer (some ⟨g,TT.length * 681,none⟩),.int .i64 z.1.1,.int .i64 z.1.2] W fun e w'=>Ext (fun _=>False) W w'/\((e=.returned (.tuple #[.agg #[.int .u64 0,.int .u64 0,.int .u64 0],.bool false])/\¬KE X.t z)\/(e=.returned (.tuple #[((X.t.why z.1.1 z.1.2).or (X.t.why z.1.2 z.1.1)).val,.bool true])/\KE X.t z))) :=
  fun W z hxw=>equal_any ((hxw.block _ (block_lt kg) (fun f=>f)).trans kg) hTab (by have:=z.2.1;omega) (by have:=z.2.2;omega)
 obtain ⟨off,hoff⟩:∃ off,TT.length * 681=off:=⟨_,rfl⟩
 rw [hoff] at HNOW HEQ
 obtain ⟨W0,hW0⟩:∃ W0,(((((w.alloc (Obj.cells #[.pointer (some ⟨hb,0,none⟩)] 139)).alloc (Obj.cells #[.int .i64 a,.int .i64 b] 151)).alloc (Obj.cells #[.int .u64 0,.int .u64 0,.int .u64 0] 197)).alloc (Obj.cells #[.bool false] 4)).alloc (Obj.cells #[.int .u64 0,.int .u64 0,.int .u64 0] 197))=W0:=⟨_,rfl⟩
 have hxW0:Ext (fun _=>False) w W0:=by rw [<- hW0];exact (((((Ext.refl _ w).alloc _).alloc _).alloc _).alloc _).alloc _
 have hsz0:W0.heap.size=w.heap.size+5:=by rw [<- hW0];simp
 have k0:W0.heap[w.heap.size]?=some (.cells #[.pointer (some ⟨hb,0,none⟩)] 139):=by
  rw [<- hW0,heap_alloc_old _ _ (by simp;omega),heap_alloc_old _ _ (by simp;omega),heap_alloc_old _ _ (by simp;omega),heap_alloc_old _ _ (by simp)];exact heap_alloc_new w _
 have k2:W0.heap[w.heap.size+2]?=some (.cells #[.int .u64 0,.int .u64 0,.int .u64 0] 197):=by
  rw [<- hW0,heap_alloc_old _ _ (by simp),heap_alloc_old _ _ (by simp)]
  have:=heap_alloc_new ((w.alloc (Obj.cells #[.pointer (some ⟨hb,0,none⟩)] 139)).alloc (Obj.cells #[.int .i64 a,.int .i64 b] 151)) (Obj.cells #[.int .u64 0,.int .u64 0,.int .u64 0] 197)
  simpa using this
 have k3:W0.heap[w.heap.size+3]?=some (.cells #[.bool false] 4):=by
  rw [<- hW0,heap_alloc_old _ _ (by simp)]
  have:=heap_alloc_new (((w.alloc (Obj.cells #[.pointer (some ⟨hb,0,none⟩)] 139)).alloc (Obj.cells #[.int .i64 a,.int .i64 b] 151)).alloc (Obj.cells #[.int .u64 0,.int .u64 0,.int .u64 0] 197)) (Obj.cells #[.bool false] 4)
  simpa using this
 have k4:W0.heap[w.heap.size+4]?=some (.cells #[.int .u64 0,.int .u64 0,.int .u64 0] 197):=by
  rw [<- hW0]
  have:=heap_alloc_new ((((w.alloc (Obj.cells #[.pointer (some ⟨hb,0,none⟩)] 139)).alloc (Obj.cells #[.int .i64 a,.int .i64 b] 151)).alloc (Obj.cells #[.int .u64 0,.int .u64 0,.int .u64 0] 197)).alloc (Obj.cells #[.bool false] 4)) (Obj.cells #[.int .u64 0,.int .u64 0,.int .u64 0] 197)
  simpa using this
 have HWE:=hide hW0
 clear h hx hy hP hI kg hTab hW0 hoff
 refine callsIn_of_wp_marks Tryz.func274 rfl trivial ?_ rfl
 simp only [Tryz.ntmps274,List.size_toArray,List.length_cons,List.length_nil,Nat.reduceAdd,Nat.reduceSub,Array.replicate_succ,Array.replicate_zero,List.push_toArray,List.append_toArray,List.nil_append,List.cons_append]
 gi_wp2
 rw [HWE.out]
 clear HWE
 refine ⟨trivial,(callsIn_wide.2 (HARG.out W0 hxW0)).mono ?_⟩
 rintro e w1 ⟨p,q,rfl,hp,hq,hx1,kp,kq⟩
 have j0:=(hx1.block _ (block_lt k0) (fun f=>f)).trans k0
 have j2:=(hx1.block _ (block_lt k2) (fun f=>f)).trans k2
 have j3:=(hx1.block _ (block_lt k3) (fun f=>f)).trans k3
 have j4:=(hx1.block _ (block_lt k4) (fun f=>f)).trans k4
 have hB1:Below w.heap.size w w1:=(hxW0.trans hx1).toBelow
 clear k0 k2 k3 k4 HARG
 gi_wp2
 refine wpIn_rangeFunc_ownF (F:=Fence.wide) (n:=5) rfl (by omega) (gf:=275) (lb:=#[.pointer (some ⟨p,0,none⟩),.pointer (some ⟨q,0,none⟩)]) rfl trivial (enters_of Tryz.func275 (by kernel_rfl) rfl)
  (args_stops HP.out kp kq 4 (by omega)) kpq_t (kpq_b (block_lt kp) (block_lt kq)) (Below.refl _ _) (fun _=>rfl)
  (fun pre W=>(W.heap[p]?=some (.cells (tkArr x) 145)/\W.heap[q]?=some (.cells (tkArr y) 145)/\W.heap[w.heap.size]?=some (.cells #[.pointer (some ⟨hb,0,none⟩)] 139)/\W.heap[w.heap.size+2]?=some (.cells #[.int .u64 0,.int .u64 0,.int .u64 0] 197)/\W.heap[w.heap.size+3]?=some (.cells #[.bool false] 4)/\∃ mk:M3,W.heap[w.heap.size+4]?=some (.cells #[.int .u64 mk.a.toNat,.int .u64 mk.b.toNat,.int .u64 mk.c.toNat] 197)/\SmI X.t V H K pre mk)/\Below w.heap.size w W)
  (fun c pre W=>(c=.ret/\W.heap[w.heap.size+2]?=some (.cells #[.int .u64 0,.int .u64 0,.int .u64 0] 197)/\W.heap[w.heap.size+3]?=some (.cells #[.bool false] 4)/\∃ z∈pre,¬KE X.t z)/\Below w.heap.size w W)
  (OwnFrom.and (Own.from (fun s A B row hs hg hr=>by
   obtain ⟨hp1,hq1,h1,h2,h3,mk,h4,h5⟩:=hs
   exact ⟨block_kept hp1 hg hr,block_kept hq1 hg hr,block_kept h1 hg hr,block_kept h2 hg hr,block_kept h3 hg hr,mk,block_kept h4 hg hr,h5⟩) _) (ownFrom_below (Nat.le_refl _) (hB1.size)))
  (fun c=>OwnFrom.and (Own.from (fun s A B row hs hg hr=>by
   obtain ⟨h1,h2,h3,h4⟩:=hs
   exact ⟨h1,block_kept h2 hg hr,block_kept h3 hg hr,h4⟩) _) (ownFrom_below (Nat.le_refl _) (hB1.size)))
  ⟨⟨kp,kq,j0,j2,j3,M3.none,j4,⟨fun z hz=>by simp at hz,Below3.none _,fun v hv hh z hz=>by simp at hz⟩⟩,hB1⟩
  (fun z => { tmps:=#[.pointer (some ⟨hb,0,none⟩),.agg #[.int .i64 a,.int .i64 b],.pointer (some ⟨w.heap.size,0,none⟩),.pointer (some ⟨w.heap.size+1,0,none⟩),.pointer (some ⟨w.heap.size+1+1,0,none⟩),.pointer (some ⟨w.heap.size+1+1+1,0,none⟩),.pointer (some ⟨w.heap.size+1+1+1+1,0,none⟩),.int .i64 z.1.1,.int .i64 z.1.2,undef,undef,.pointer (some ⟨hb,0,none⟩),.agg #[.int .i64 a,.int .i64 b],.func (.func 275) #[] #[.pointer (some ⟨p,0,none⟩),.pointer (some ⟨q,0,none⟩)],.int .i64 z.1.1,.int .i64 z.1.2,undef,undef,undef,undef,undef,undef,undef,undef,undef,undef,undef,undef,undef,undef,undef],defers:=[] }) ?assign ?body ?done ?stop
 case assign =>
  intro l z W K hK
  gi_wp2
  exact hK
 case body =>
  rintro l pre z W ⟨⟨ip,iq,i0,i2,i3,mk,i4,hS⟩,hB⟩ _
  have c0:=cell_of_block i0 0
  have hxw:Ext (fun _=>False) w W:=Ext.ofBelow hB
  have IP:=hide ip
  have IQ:=hide iq
  have I0:=hide i0
  have I2:=hide i2
  have I3:=hide i3
  have I4:=hide i4
  have HS:=hide hS
  have HB:=hide hB
  have HXW:=hide hxw
  clear ip iq i0 i2 i3 i4 hS hB hxw j0 j2 j3 j4 kp kq hB1
  gi_wp2
  refine ⟨trivial,(CallsIn.inRound l (callsIn_wide.2 (HNOW.out W HXW.out))).mono ?_⟩
  rintro e W1 ⟨rfl,rfl⟩
  gi_wp2
  refine ⟨trivial,(CallsIn.inRound l (callsIn_wide.2 (HEQ.out W.drew z HXW.out.drew))).mono ?_⟩
  rintro e W2 ⟨hx2,⟨rfl,hno⟩ | ⟨rfl,hyes⟩⟩
  ·have hxx:Ext (fun _=>False) W W2:=((Ext.refl (fun _=>False) W).drew).trans hx2
   have HXX:=hide hxx
   have HNO:=hide hno
   have r2:W2.heap[w.heap.size+1+1]?=some (.cells #[.int .u64 0,.int .u64 0,.int .u64 0] 197):=(hxx.block _ (block_lt I2.out) (fun f=>f)).trans I2.out
   have r3:W2.heap[w.heap.size+1+1+1]?=some (.cells #[.bool false] 4):=(hxx.block _ (block_lt I3.out) (fun f=>f)).trans I3.out
   have l2:=block_lt r2
   have l3:=block_lt r3
   have e0:=cell_of_block r2 0
   have e1:=cell_of_block r2 1
   have e2:=cell_of_block r2 2
   have f0:=frozen_of_block r2 0
   have f1:=frozen_of_block r2 1
   have f2:=frozen_of_block r2 2
   have e3:=cell_of_block r3 0
   have f3:=frozen_of_block r3 0
   have R2:=hide r2
   have R3:=hide r3
   clear hx2 hxx hno r2 r3
   gi_wp2
   have hBW2:Below w.heap.size w W2:=HB.out.trans (below_ext HXX.out HB.out.size)
   refine ⟨?_,⟨rfl,?_,?_,z,by simp,HNO.out⟩,?_⟩
   ·exact (KeepsOthers.of_ext HXX.out).trans (((((KeepsOthers.setCell _ _ _).trans (KeepsOthers.setCell _ _ _)).trans (KeepsOthers.setCell _ _ _)).trans (KeepsOthers.setCell _ _ _)).trans (KeepsOthers.alloc _ _))
   ·rw [heap_alloc_old _ _ (by simpa using l2)]
    exact (setCell_block _ _ (by show ¬w.heap.size+2=w.heap.size+1+1+1;omega)).trans (block_setCell (block_setCell (block_setCell R2.out 0 _) 1 _) 2 _)
   ·rw [heap_alloc_old _ _ (by simpa using l3)]
    refine block_setCell ((setCell_block _ _ (by show ¬w.heap.size+3=w.heap.size+1+1;omega)).trans ((setCell_block _ _ (by show ¬w.heap.size+3=w.heap.size+1+1;omega)).trans ((setCell_block _ _ (by show ¬w.heap.size+3=w.heap.size+1+1;omega)).trans R3.out))) 0 _
   ·exact ((((hBW2.setCell (p:=⟨w.heap.size+1+1,0,none⟩) (by show w.heap.size<=w.heap.size+1+1;omega) _).setCell (p:=⟨w.heap.size+1+1,1,none⟩) (by show w.heap.size<=w.heap.size+1+1;omega) _).setCell (p:=⟨w.heap.size+1+1,2,none⟩) (by show w.heap.size<=w.heap.size+1+1;omega) _).setCell (p:=⟨w.heap.size+1+1+1,0,none⟩) (by show w.heap.size<=w.heap.size+1+1+1;omega) _).alloc (by simp;exact hBW2.size) _
  ·have hxx:Ext (fun _=>False) W W2:=((Ext.refl (fun _=>False) W).drew).trans hx2
   have HXX:=hide hxx
   have HYES:=hide hyes
   have r4:W2.heap[w.heap.size+1+1+1+1]?=some (.cells #[.int .u64 mk.a.toNat,.int .u64 mk.b.toNat,.int .u64 mk.c.toNat] 197):=(hxx.block _ (block_lt I4.out) (fun f=>f)).trans I4.out
   have l4:=block_lt r4
   have e0:=cell_of_block r4 0
   have e1:=cell_of_block r4 1
   have e2:=cell_of_block r4 2
   have R4:=hide r4
   simp only [M3.val,u64]
   clear hx2 hxx hyes r4
   gi_wp2
   refine ⟨trivial,(CallsIn.inRound l (callsIn_wide.2 (with_any mk ((X.t.why z.1.1 z.1.2).or (X.t.why z.1.2 z.1.1)) _))).mono ?_⟩
   rintro e W3 ⟨rfl,hx3⟩
   have hxx3:Ext (fun _=>False) W W3:=HXX.out.trans (((Ext.refl (fun _=>False) W2).alloc _).trans hx3)
   have r4:W3.heap[w.heap.size+1+1+1+1]?=some (.cells #[.int .u64 mk.a.toNat,.int .u64 mk.b.toNat,.int .u64 mk.c.toNat] 197):=(hxx3.block _ (block_lt I4.out) (fun f=>f)).trans I4.out
   have e0:=cell_of_block r4 0
   have e1:=cell_of_block r4 1
   have e2:=cell_of_block r4 2
   have f0:=frozen_of_block r4 0
   have f1:=frozen_of_block r4 1
   have f2:=frozen_of_block r4 2
   have R4:=hide r4
   have HX3:=hide hxx3
   simp only [M3.val,u64]
   clear hx3 hxx3 r4
   gi_wp2
   have hBW3:Below w.heap.size w W3:=HB.out.trans (below_ext HX3.out HB.out.size)
   have hp4:¬p=w.heap.size+4:=by omega
   have hq4:¬q=w.heap.size+4:=by omega
   have keep:∀ k,k < W.heap.size->¬k=w.heap.size+4->(((W3.setCell ⟨w.heap.size+1+1+1+1,0,none⟩ (.int .u64 (mk.or ((X.t.why z.1.1 z.1.2).or (X.t.why z.1.2 z.1.1))).a.toNat)).setCell ⟨w.heap.size+1+1+1+1,1,none⟩ (.int .u64 (mk.or ((X.t.why z.1.1 z.1.2).or (X.t.why z.1.2 z.1.1))).b.toNat)).setCell ⟨w.heap.size+1+1+1+1,2,none⟩ (.int .u64 (mk.or ((X.t.why z.1.1 z.1.2).or (X.t.why z.1.2 z.1.1))).c.toNat)).heap[k]?=W.heap[k]?:=by
    intro k hk hne
    exact (setCell_block _ _ (by show ¬k=w.heap.size+1+1+1+1;omega)).trans ((setCell_block _ _ (by show ¬k=w.heap.size+1+1+1+1;omega)).trans ((setCell_block _ _ (by show ¬k=w.heap.size+1+1+1+1;omega)).trans (HX3.out.block k hk (fun f=>f))))
   refine ⟨(KeepsOthers.of_ext HX3.out).trans (((KeepsOthers.setCell _ _ _).trans (KeepsOthers.setCell _ _ _)).trans (KeepsOthers.setCell _ _ _)),⟨keep p (block_lt IP.out) hp4,keep q (block_lt IQ.out) hq4⟩,⟨(keep p (block_lt IP.out) hp4).trans IP.out,(keep q (block_lt IQ.out) hq4).trans IQ.out,(keep _ (block_lt I0.out) (by omega)).trans I0.out,(keep _ (block_lt I2.out) (by omega)).trans I2.out,(keep _ (block_lt I3.out) (by omega)).trans I3.out,_,block_setCell (block_setCell (block_setCell R4.out 0 _) 1 _) 2 _,HS.out.snoc HI.out (Nat.le_succ _) HYES.out⟩,?_⟩
   exact ((hBW3.setCell (p:=⟨w.heap.size+1+1+1+1,0,none⟩) (by show w.heap.size<=w.heap.size+1+1+1+1;omega) _).setCell (p:=⟨w.heap.size+1+1+1+1,1,none⟩) (by show w.heap.size<=w.heap.size+1+1+1+1;omega) _).setCell (p:=⟨w.heap.size+1+1+1+1,2,none⟩) (by show w.heap.size<=w.heap.size+1+1+1+1;omega) _
 case done =>
  rintro D ys W hD rfl ⟨⟨ip,iq,i0,i2,i3,mk,i4,hS⟩,hB⟩ hK
  have c0:W.cell? ⟨w.heap.size+1+1+1+1,0,none⟩=some (.int .u64 mk.a.toNat):=cell_of_block i4 0
  have c1:W.cell? ⟨w.heap.size+1+1+1+1,1,none⟩=some (.int .u64 mk.b.toNat):=cell_of_block i4 1
  have c2:W.cell? ⟨w.heap.size+1+1+1+1,2,none⟩=some (.int .u64 mk.c.toNat):=cell_of_block i4 2
  have e0:W.cell? ⟨w.heap.size+1+1,0,none⟩=some (.int .u64 0):=cell_of_block i2 0
  have e1:W.cell? ⟨w.heap.size+1+1,1,none⟩=some (.int .u64 0):=cell_of_block i2 1
  have e2:W.cell? ⟨w.heap.size+1+1,2,none⟩=some (.int .u64 0):=cell_of_block i2 2
  have f0:W.frozen? ⟨w.heap.size+1+1,0,none⟩=false:=frozen_of_block i2 0
  have f1:W.frozen? ⟨w.heap.size+1+1,1,none⟩=false:=frozen_of_block i2 1
  have f2:W.frozen? ⟨w.heap.size+1+1,2,none⟩=false:=frozen_of_block i2 2
  have e3:W.cell? ⟨w.heap.size+1+1+1,0,none⟩=some (.bool false):=cell_of_block i3 0
  have f3:W.frozen? ⟨w.heap.size+1+1+1,0,none⟩=false:=frozen_of_block i3 0
  have hDw:w.heap.size<=D:=Nat.le_trans hB1.size hD
  obtain ⟨Wf,hWf⟩:∃ Wf,((((W.setCell ⟨w.heap.size+1+1,0,none⟩ (.int .u64 mk.a.toNat)).setCell ⟨w.heap.size+1+1,1,none⟩ (.int .u64 mk.b.toNat)).setCell ⟨w.heap.size+1+1,2,none⟩ (.int .u64 mk.c.toNat)).setCell ⟨w.heap.size+1+1+1,0,none⟩ (.bool true))=Wf:=⟨_,rfl⟩
  have hKf:Wf.heap[D]?=some (.deferred (some [])):=by
   rw [<- hWf]
   exact (KeepsOthers.setCell _ _ _).same D _ ((KeepsOthers.setCell _ _ _).same D _ ((KeepsOthers.setCell _ _ _).same D _ ((KeepsOthers.setCell _ _ _).same D _ hK rfl) rfl) rfl) rfl
  have b2:Wf.heap[w.heap.size+1+1]?=some (.cells #[.int .u64 mk.a.toNat,.int .u64 mk.b.toNat,.int .u64 mk.c.toNat] 197):=by
   rw [<- hWf]
   exact (setCell_block _ _ (by show ¬w.heap.size+1+1=w.heap.size+1+1+1;omega)).trans (block_setCell (block_setCell (block_setCell i2 0 _) 1 _) 2 _)
  have b3:Wf.heap[w.heap.size+1+1+1]?=some (.cells #[.bool true] 4):=by
   rw [<- hWf]
   exact block_setCell ((setCell_block _ _ (by show ¬w.heap.size+1+1+1=w.heap.size+1+1;omega)).trans ((setCell_block _ _ (by show ¬w.heap.size+1+1+1=w.heap.size+1+1;omega)).trans ((setCell_block _ _ (by show ¬w.heap.size+1+1+1=w.heap.size+1+1;omega)).trans i3))) 0 _
  have hBf:Below w.heap.size w Wf:=by
   rw [<- hWf]
   exact (((hB.setCell (p:=⟨w.heap.size+1+1,0,none⟩) (by show w.heap.size<=w.heap.size+1+1;omega) _).setCell (p:=⟨w.heap.size+1+1,1,none⟩) (by show w.heap.size<=w.heap.size+1+1;omega) _).setCell (p:=⟨w.heap.size+1+1,2,none⟩) (by show w.heap.size<=w.heap.size+1+1;omega) _).setCell (p:=⟨w.heap.size+1+1+1,0,none⟩) (by show w.heap.size<=w.heap.size+1+1+1;omega) _
  have HWF:=hide hWf
  have g2:=block_kept b2 (grownBy_putObj' Wf D (.deferred none)) (fun r e=>by cases e;exact ⟨_,hKf,rfl⟩)
  have g3:=block_kept b3 (grownBy_putObj' Wf D (.deferred none)) (fun r e=>by cases e;exact ⟨_,hKf,rfl⟩)
  have z0:=cell_of_block g2 0
  have z1:=cell_of_block g2 1
  have z2:=cell_of_block g2 2
  have z3:=cell_of_block g3 0
  have G2:=hide b2
  have G3:=hide b3
  clear hWf ip iq i0 i2 i3 i4 b2 b3
  gi_wp2
  rw [HWF.out]
  refine ⟨by simp,.inl ⟨_,_,rfl,run_takeDeferred hKf,?_⟩⟩
  refine ⟨.tuple #[.agg #[.int .u64 mk.a.toNat,.int .u64 mk.b.toNat,.int .u64 mk.c.toNat],.bool true],?_,mk,true,rfl,hBf.trans (belowK_b (w:=w) (Nat.le_refl _) Wf D _ _ hDw hKf rfl rfl),fun _=>hS,fun e=>by simp at e⟩
  simp [results,Tryz.results274,go_sem,z0,z1,z2,z3]
 case stop =>
  rintro D c pre W hD ⟨k,hk,rfl⟩ ⟨⟨rfl,i2,i3,z,hz,hn⟩,hB⟩ hK
  have hDw:w.heap.size<=D:=Nat.le_trans hB1.size hD
  have g2:(W.putObj D (.deferred none)).heap[w.heap.size+1+1]?=some (.cells #[.int .u64 0,.int .u64 0,.int .u64 0] 197):=block_kept i2 (grownBy_putObj' W D (.deferred none)) (fun r e=>by cases e;exact ⟨_,hK,rfl⟩)
  have g3:(W.putObj D (.deferred none)).heap[w.heap.size+1+1+1]?=some (.cells #[.bool false] 4):=block_kept i3 (grownBy_putObj' W D (.deferred none)) (fun r e=>by cases e;exact ⟨_,hK,rfl⟩)
  have z0:=cell_of_block g2 0
  have z1:=cell_of_block g2 1
  have z2:=cell_of_block g2 2
  have z3:=cell_of_block g3 0
  gi_wp2
  refine ⟨by simp,.inl ⟨_,_,rfl,run_takeDeferred hK,?_⟩⟩
  refine ⟨.tuple #[.agg #[.int .u64 0,.int .u64 0,.int .u64 0],.bool false],?_,M3.none,false,rfl,hB.trans (belowK_b (w:=w) (Nat.le_refl _) W D _ _ hDw hK rfl rfl),fun e=>by simp at e,fun _=>⟨z,List.mem_of_mem_take hz,hn⟩⟩
  simp [results,Tryz.results274,go_sem,z0,z1,z2,z3]
theorem same_any (h:ThR w hb g c TK AK tw As (TT++[X])) {a b:Nat} {x y:TKey} (hx:TK[a]?=some x) (hy:TK[b]?=some y) (hT:TK.length<=12) (hl:TT.length<=500) {ar:Nat} {zs:List (PN2 TK.length)} (hP:Prs x y ar zs) {far:Int} {V:(Nat->Int)->Prop} {H:Nat->(Nat->Int)->Prop} {K:Nat} (hI:TInv (TK.length+1) far V H K X.t) :
  Calls Tryz.prog 274 #[.pointer (some ⟨hb,0,none⟩),.agg #[.int .i64 a,.int .i64 b]] w fun e w'=>∃ (mk:M3) (same:Bool),e=.returned (.tuple #[.agg #[.int .u64 mk.a.toNat,.int .u64 mk.b.toNat,.int .u64 mk.c.toNat],.bool same])/\Ext (fun _=>False) w w'/\(same=true->SmI X.t V H K zs mk)/\(same=false->∃ z∈zs,¬KE X.t z) :=
 (callsIn_wide.1 (same_in h hx hy hT hl hP hI)).mono (fun _ _ ⟨mk,same,h1,h2,h3⟩=>⟨mk,same,h1,Ext.ofBelow h2,h3⟩)
end
end Go.Proofs.YtegbdaffhpiacaaGreatDoor

namespace Go.Proofs.YtegbdaffhpiacaaGreatDoor
open Go.RowKit Ar
structure FxOk (F:Fx) (TK:List TKey) (tw:List (Nat × Nat)):Prop where
 fn:F.n=TK.length
 ftw:F.tw=tw
 prs:∀ p∈tw,∃ (x y:TKey) (ar:Nat) (zs:List (PN2 TK.length)),TK[p.1]?=some x/\TK[p.2]?=some y/\Prs x y ar zs/\F.prs p=zs.map (·.1)
theorem tw_cells {tw:List (Nat × Nat)} {k:Nat} {p:Nat × Nat} (h:tw[k]?=some p):(twCells tw)[k * 2]?=some (.int .i64 p.1)/\(twCells tw)[k * 2+1]?=some (.int .i64 p.2):=by
 have hk:=(List.getElem?_eq_some_iff.1 h).1
 have e:tw=tw.take k++p :: tw.drop (k+1):=by
  have e1:=(List.take_append_drop k tw).symm
  rw [List.drop_eq_getElem_cons hk,(List.getElem?_eq_some_iff.1 h).2] at e1
  exact e1
 have hl:∀ l:List (Nat × Nat),(twCells l).length=l.length * 2:=by
  intro l
  induction l with
  | nil=>rfl
  | cons a b ih=>simp only [twCells,List.flatMap_cons,List.length_append] at ih ⊢;simp at ih ⊢;omega
 have e2:twCells tw=twCells (tw.take k)++([.int .i64 p.1,.int .i64 p.2]++twCells (tw.drop (k+1))):=by
  conv=>lhs;rw [e]
  simp [twCells]
 have hlk:(twCells (tw.take k)).length=k * 2:=by rw [hl,List.length_take];congr 1;omega
 rw [e2]
 refine ⟨?_,?_⟩
 ·rw [List.getElem?_append_right (by omega),hlk,Nat.sub_self];rfl
 ·rw [List.getElem?_append_right (by omega),hlk,Nat.add_sub_cancel_left];rfl
section
variable {w:World} {hb g:Nat} {c:ThV} {TK:List TKey} {AK:List PA} {tw:List (Nat × Nat)} {As:List (PA × Bool)} {TT:List Tab} {X:Tab} {F:Fx}
set_option maxRecDepth 100000 in
set_option maxHeartbeats 1000000 in
theorem mapped_any (h:ThR w hb g c TK AK tw As (TT++[X])) (hF:FxOk F TK tw) (hT:TK.length<=12) (hl:TT.length<=500) (htw:tw.length<=1000) (hI:TInv (F.n+1) F.far F.V (HA (asAt As)) As.length X.t) (hfar:F.far<=1000000) :
  Calls Tryz.prog 269 #[.pointer (some ⟨hb,0,none⟩)] w (ThC w hb g c TK AK tw As TT X F (fun Y=>Y.news=false->∀ p∈tw,Mapped F Y.t p)):=by
 have kb:=h.blk
 obtain ⟨wa,wc,hwv⟩:=row_shape h.tw
 have hbl:=block_lt kb
 rw [hwv] at kb
 have c2:=cell_of_block kb 2
 have H:=hide h
 have HI:=hide hI
 have HF:=hide hF
 have hFn:=hF.fn
 clear h kb hI hF
 go_enter Tryz.func269,Tryz.ntmps269
 go_wp2_with fail
 go_loopw [12] (fun i wr=>∃ j:Nat,j<=tw.length/\i=.int .i64 j/\PtW w hb g c TK AK tw As TT X F (fun Y=>Y.news=false->∀ p∈tw.take j,Mapped F Y.t p) wr) (fun i _=>tw.length - (intOf i).toNat)
 case atStart=>exact ⟨0,Nat.zero_le _,rfl,X,H.out,Ext.refl _ _,Ar.TPost.refl HI.out,fun _ x hx=>by simp at hx⟩
 case round =>
  obtain ⟨j,hj,rfl,Y,hR,hx,hP,hQ⟩:=hrel
  have HR:=hide hR
  have HX:=hide hx
  have HP:=hide hP
  have HQ:=hide hQ
  by_cases hlt:j < tw.length
  ·obtain ⟨⟨a,b⟩,hpj⟩:∃ p,tw[j]?=some p:=⟨_,List.getElem?_eq_getElem hlt⟩
   obtain ⟨gw,rfl,hgwl⟩:∃ gw,wa=some ⟨gw,0,none⟩/\gw < wr.heap.size:=by
    rcases hR.tw.2 with ⟨e,e0⟩ | ⟨g',cap,cur,hv,_,hh,_⟩
    ·omega
    ·rw [hwv] at hv;simp at hv;exact ⟨g',hv.1,block_lt hh⟩
   have ho:=hR.tw
   rw [hwv] at ho
   obtain ⟨q0,q1⟩:=tw_cells hpj
   have x0:=(ho.cellAt (j * 2) (by omega)).trans q0
   have x1:=(ho.cellAt (j * 2+1) (by omega)).trans q1
   simp only at x0 x1
   have hmem:=List.mem_of_getElem? hpj
   obtain ⟨x,y,ar,zs,hxa,hyb,hPrs,hprs⟩:=HF.out.prs _ hmem
   simp only at hxa hyb
   have ha:=(List.getElem?_eq_some_iff.1 hxa).1
   have hb':=(List.getElem?_eq_some_iff.1 hyb).1
   have hIY:=hP.inv rfl
   obtain ⟨V,hV⟩:∃ V,wr.alloc (.cells #[.int .i64 a,.int .i64 b] 151)=V:=⟨_,rfl⟩
   have hxV:Ext (fun _=>False) wr V:=by rw [<- hV];exact (Ext.refl _ wr).alloc _
   have kA:V.heap[wr.heap.size]?=some (.cells #[.int .i64 a,.int .i64 b] 151):=by rw [<- hV];exact heap_alloc_new wr _
   have HSM:=hide (same_any (hR.ext hxV (fun _ _ f=>f)) hxa hyb hT hl hPrs (by rw [<- hFn];exact hIY))
   have HNOW:Hid (∀ W,Ext (fun _=>False) wr W->Calls Tryz.prog 259 #[.pointer (some ⟨hb,0,none⟩)] W fun e w'=>e=.returned (.pointer (some ⟨g,TT.length * 681,none⟩))/\Ext (fun _=>False) wr w'/\w'.heap=W.heap):=by
    intro W hxw
    have:=now_any (HR.out.ext hxw (fun _ _ f=>f)) (by simp) (by simp;omega)
    rw [List.length_append,List.length_singleton,Nat.add_sub_cancel] at this
    exact this.mono (fun e w' h=>⟨h.1,by rw [h.2];exact hxw.drew,by rw [h.2];rfl⟩)
   obtain ⟨C,kg,hTab,hTurn⟩:=HR.out.tab
   have HEQ:Hid (∀ (mk:M3),SmI Y.t F.V (HA (asAt As)) As.length zs mk->∀ W,Ext (fun _=>False) wr W->Calls Tryz.prog 267 #[.pointer (some ⟨g,TT.length * 681,none⟩),.int .i64 a,.int .i64 b,.agg #[.int .u64 mk.a.toNat,.int .u64 mk.b.toNat,.int .u64 mk.c.toNat]] W fun e wp=>∃ Z ok,e=.returned (.bool ok)/\ThR wp hb g c TK AK tw As (TT++[Z])/\Ext (fun k=>k=g) w wp/\Ar.TPost (TK.length+1) F.far F.V (HA (asAt As)) As.length Y Z ok/\(ok=true->Z.t.by_ a b<=0/\Z.t.by_ b a<=0)):=by
    intro mk hsm W hxw
    refine (equate_any ((hxw.block _ (block_lt kg) (fun f=>f)).trans kg) hTab (by omega) (by omega) (by omega) (X:=Y) (far:=F.far) (V:=F.V) (H:=HA (asAt As)) (K:=As.length) (mw:=mk) ?_ hfar hsm.bl ?_).mono ?_
    ·rw [<- hFn];exact hIY
    ·intro v hv hh
     have h1:=hv.fn (a,b) (by rw [HF.out.ftw];exact hmem) (fun q hq=>by
      rw [hprs] at hq
      obtain ⟨z,hz,rfl⟩:=List.mem_map.1 hq
      exact hsm.eq v hv hh z hz)
     exact h1
    ·rintro e wp ⟨Z,ok,he,hTP,hPP,hRR⟩
     exact ⟨Z,ok,he,hTurn wp Z (TabPost.trans (hxw.mono (fun _ _ f=>f.elim)) (SameOut.refl _ _) hTP),HX.out.trans ((hxw.mono (fun _ _ f=>f.elim)).trans hTP.1),hPP,hRR⟩
   have HVE:=hide hV
   have HXV:=hide hxV
   have KA:=hide kA
   have HPJ:=hide hpj
   have HPRS:=hide hprs
   obtain ⟨m,hm⟩:∃ m,TT.length * 681=m:=⟨_,rfl⟩
   rw [hm] at HNOW HEQ
   clear hR hx hP hQ hpj ho q0 q1 hmem hxa hyb hPrs hprs hIY hV hxV kA kg hTab hTurn hm
   go_wp2_with fail
   rw [HVE.out]
   clear HVE
   refine HSM.out.mono ?_
   rintro e w2 ⟨mk,same,rfl,hx2,hs1,hs2⟩
   have HS1:=hide hs1
   have HS2:=hide hs2
   have hxr2:Ext (fun _=>False) wr w2:=HXV.out.trans hx2
   have kA2:=(hx2.block _ (block_lt KA.out) (fun f=>f)).trans KA.out
   clear hx2 hs1 hs2 HSM x0 x1
   cases same with
   | false =>
    go_wp2_with fail
    go_region
    go_wp2_with fail
    go_roundw
    case measure=>simp [intOf];omega
    case rel =>
     refine ⟨j+1,by omega,by go_num,Y,HR.out.ext ((hxr2.alloc _).drew) (fun _ _ f=>f),HX.out.trans (((hxr2.alloc _).drew).mono (fun _ _ f=>f.elim)),HP.out,fun hn y hy=>?_⟩
     rw [List.take_add_one,HPJ.out] at hy
     rcases List.mem_append.1 hy with e | e
     ·exact HQ.out hn y e
     ·simp at e
      subst e
      intro hall
      obtain ⟨z,hz,hne⟩:=HS2.out (by simp)
      exact absurd (hall z.1 (by rw [HPRS.out];exact List.mem_map_of_mem hz)) hne
   | true =>
    obtain ⟨V2,hV2⟩:∃ V2,w2.alloc (.cells #[.int .u64 mk.a.toNat,.int .u64 mk.b.toNat,.int .u64 mk.c.toNat] 197)=V2:=⟨_,rfl⟩
    have hxV2:Ext (fun _=>False) wr V2.drew:=by rw [<- hV2];exact (hxr2.alloc _).drew
    have kM:V2.heap[w2.heap.size]?=some (.cells #[.int .u64 mk.a.toNat,.int .u64 mk.b.toNat,.int .u64 mk.c.toNat] 197):=by rw [<- hV2];exact heap_alloc_new w2 _
    have kT:V2.heap[wr.heap.size]?=some (.cells #[.int .i64 a,.int .i64 b] 151):=by rw [<- hV2,heap_alloc_old _ _ (block_lt kA2)];exact kA2
    have u0:=cell_of_block kT 0
    have u1:=cell_of_block kT 1
    have m0:=cell_of_block kM 0
    have m1:=cell_of_block kM 1
    have m2:=cell_of_block kM 2
    have KM:=hide kM
    have KT:=hide kT
    have HVE2:=hide hV2
    have HEQ2:=hide (HEQ.out mk (HS1.out rfl))
    clear kM kT hV2 kA2 HEQ
    go_wp2_with fail
    rw [HVE2.out]
    clear HVE2
    go_region_law (go_simp;go_wp2_with (first
     | (go_at_call 259;refine (HNOW.out _ (by assumption)).mono ?_;rintro e wa ⟨rfl,hxa,hha⟩;have ka:wa.heap[w2.heap.size]?=some (.cells #[.int .u64 mk.a.toNat,.int .u64 mk.b.toNat,.int .u64 mk.c.toNat] 197):=(by rw [hha];exact KM.out);have kt:wa.heap[wr.heap.size]?=some (.cells #[.int .i64 a,.int .i64 b] 151):=(by rw [hha];exact KT.out);have va0:=cell_of_block ka 0;have va1:=cell_of_block ka 1;have va2:=cell_of_block ka 2;have vt0:=cell_of_block kt 0;have vt1:=cell_of_block kt 1;clear hha ka kt)
     | (go_at_call 267;refine (HEQ2.out _ (by assumption)).mono ?_;rintro e wp ⟨Z,ok,rfl,hfin⟩;have HFIN:=hide hfin;clear hfin)
     | fail))
    all_goals
     obtain ⟨f1,f2,f3,f4⟩:=HFIN.out
     rw [<- hFn] at f3
     have F1:=hide f1
     have F2:=hide f2
     have F3:=hide (HP.out.trans f3)
     have F5:=hide f3
     have F4:=hide f4
     clear f1 f2 f3 f4 HFIN
     cases ok with
     | false =>
      go_wp2_with fail
      go_ret
      exact ⟨Z,false,rfl,F1.out,F2.out,F3.out,fun e=>by simp at e⟩
     | true =>
      go_wp2_with fail
      go_roundw
      case measure=>simp [intOf];omega
      case rel =>
       refine ⟨j+1,by omega,by go_num,Z,F1.out,F2.out,F3.out,fun hn y hy=>?_⟩
       rw [List.take_add_one,HPJ.out] at hy
       rcases List.mem_append.1 hy with e | e
       ·obtain ⟨n1,n2⟩:=F5.out.news hn
        rw [n2]
        exact HQ.out n1 y e
       ·simp at e
        subst e
        intro _
        exact F4.out rfl
  ·have hjl:j=tw.length:=by omega
   subst hjl
   clear hR hx hP hQ
   go_wp2_with fail
   go_ret
   exact ⟨Y,true,rfl,HR.out,HX.out,HP.out,fun _ hn x hx=>HQ.out hn x (by rw [List.take_length];exact hx)⟩
end
theorem put_ext (W:World) {l:Nat} (o:Obj):Ext (fun k=>k=l) W (W.putObj l o) :=
 ⟨rfl,rfl,rfl,by simp [World.putObj],fun k _ hn=>World.putObj_heap_other hn⟩
def GivesAll {α:Type} (P:Program) (n gf:Nat) (lb:Array Value) (encs : α->Array Value) (p:Nat) (xs:List α) (w:World):Prop :=
 ∀ (l:Nat) (J:List α->World->Prop) (W:World),Ext (fun _=>False) w W->(∀ pre A B,J pre A->Ext (fun k=>k=p) A B->J pre B) ->
  (∀ pre x A,J pre A->pre++[x] <+: xs->YieldAt Fence.wide (n - 1) P l (encs x) A fun e B=>e=.returned (.bool true)/\J (pre++[x]) B/\B.heap[p]?=A.heap[p]?) ->
  J [] W->CallsIn Fence.wide n P gf (#[.func (.yield l) #[] #[]]++lb) W fun e B=>(∃ v,e=.returned v)/\J xs B
theorem range_through {α:Type} {P:Program} {n:Nat} {g:Operand} {ps:Array Tmp} {assign body:Code} {Q:Exit->Act->World->Prop} {a:Act} {w:World} (h1:1<=n) {gf:Nat} {lb:Array Value}
  (hg:a.eval g=.func (.func gf) #[] lb) (eg:∀ args w,(callFunc gf args).run P w=.ok (.enter gf args) w) {encs : α->Array Value} (hps:∀ x,(encs x).size=ps.size) {p:Nat} {xs:List α} (hp:p < w.heap.size)
  (hseq:GivesAll P (n - 1) gf lb encs p xs w) (I:List α->World->Prop) (hIp:∀ pre A B,I pre A->Ext (fun k=>k=p) A B->I pre B)
  (hIl:∀ (pre:List α) (A:World) (l:Nat) (o o':Obj),I pre A->w.heap.size<=l->A.heap[l]?=some o->o.isCells=false->I pre (A.putObj l o')) (h0:I [] w) (a₁ : α->Act)
  (hassign:∀ (l:Nat) (x : α) (W:World) (K:Act->World->Prop),K (a₁ x) W ->
   assign.wpIn (Fence.wide.inRound l) (n - 1 - 1) P (Exit.then K (fun _ _ _=>False)) { tmps:=(ps.zip (encs x)).foldl (fun t (p,v)=>t.setIfInBounds p v) a.tmps,defers:=[] } W)
  (hbody:∀ (l:Nat) (pre:List α) (x : α) (W:World),I pre W->pre++[x] <+: xs->body.wpIn (Fence.wide.inRound l) (n - 1 - 1) P (fun e _ B=>e=.normal/\KeepsOthers W B/\B.heap[p]?=W.heap[p]?/\I (pre++[x]) B) (a₁ x) W)
  (hdone:∀ (D:Nat) (W:World),w.heap.size<=D->I xs W->W.heap[D]?=some (.deferred (some []))->Q .normal { a with defers := { target:=.collected D,args:=#[] } :: a.defers } W) :
  (Code.rangeFunc g ps assign body).wpIn Fence.wide n P Q a w:=by
 refine wpIn_rangeFunc fun fn hfn=>?_
 obtain ⟨R,hR⟩:∃ R:LoopState->Loop,R=fun st => { state:=st,pending:=none,fn,tmps:=a.tmps,params:=ps,assign,body,defers:=w.heap.size }:=⟨_,rfl⟩
 have hRp:∀ st,(R st).params=ps/\(R st).state=st/\(R st).pending=none:=fun st=>by rw [hR];exact ⟨rfl,rfl,rfl⟩
 have hRs:∀ st st',{ R st with state:=st',pending:=none } = R st' /\ { R st with state:=st' } = R st':=fun st st'=>by rw [hR];exact ⟨rfl,rfl⟩
 have hx0:Ext (fun _=>False) w ((w.alloc (.deferred (some []))).alloc (.loop (R .ready))):=((Ext.refl _ w).alloc _).alloc _
 have hD0:((w.alloc (.deferred (some []))).alloc (.loop (R .ready))).heap[w.heap.size]?=some (.deferred (some [])):=by
  rw [heap_alloc_old _ _ (by simp)];exact heap_alloc_new w _
 have hL0:((w.alloc (.deferred (some []))).alloc (.loop (R .ready))).heap[w.heap.size+1]?=some (.loop (R .ready)):=by
  have:=heap_alloc_new (w.alloc (.deferred (some []))) (.loop (R .ready))
  simpa using this
 have hI0:I [] ((w.alloc (.deferred (some []))).alloc (.loop (R .ready))):=hIp _ _ _ h0 (hx0.mono (fun _ _ f=>f.elim))
 obtain ⟨W1,hW1⟩:∃ W1,(w.alloc (.deferred (some []))).alloc (.loop (R .ready))=W1:=⟨_,rfl⟩
 refine ⟨w.heap.size+1,[{ target:=.collected w.heap.size,args:=#[] }],W1,{ target:=.fn (.func gf) lb,args:=#[.func (.yield (w.heap.size+1)) #[] #[]] },W1,gf,#[.func (.yield (w.heap.size+1)) #[] #[]]++lb,W1,?_,?_,?_,?_,fun _=>h1,?_⟩
 ·rw [<- hW1,hR];exact run_enterLoop_outer _ _ _ _ _
 ·simp only [resolve,hg];simp [go_sem]
 ·intro f' hf';simp [Target.leads] at hf';subst hf';trivial
 ·simp [invoke,go_sem,eg]
 rw [hW1] at hx0 hD0 hL0 hI0
 refine (hseq (w.heap.size+1) (fun pre W=>I pre W/\W.heap[w.heap.size+1]?=some (.loop (R .ready))/\W.heap[w.heap.size]?=some (.deferred (some []))) W1 hx0 ?_ ?_ ⟨hI0,hL0,hD0⟩).mono ?_
 ·rintro pre A B ⟨q1,q2,q3⟩ hx
  exact ⟨hIp pre A B q1 hx,(hx.block _ (block_lt q2) (by omega)).trans q2,(hx.block _ (block_lt q3) (by omega)).trans q3⟩
 ·rintro pre x A ⟨q1,q2,q3⟩ hpre
  have hy:=run_yield (P:=P) (args:=encs x) q2 (by rw [(hRp _).1];exact hps x)
  have hbg:=run_beginRound (P:=P) q2 (hRp _).2.1
  rw [(hRs _ _).2] at hbg
  have hlt:=block_lt q2
  have k2:(A.putObj (w.heap.size+1) (.loop (R .busy))).heap[w.heap.size+1]?=some (.loop (R .busy)):=World.putObj_heap_same hlt
  have k3:(A.putObj (w.heap.size+1) (.loop (R .busy))).heap[w.heap.size]?=some (.deferred (some [])):=(World.putObj_heap_other (by omega)).trans q3
  have kp:(A.putObj (w.heap.size+1) (.loop (R .busy))).heap[p]?=A.heap[p]?:=World.putObj_heap_other (by omega)
  have hbd:=hbody (w.heap.size+1) pre x _ (hIl pre A (w.heap.size+1) _ (.loop (R .busy)) q1 (by omega) q2 rfl) hpre
  rw [hR] at hy
  refine ⟨fn,_,assign,body,hy,roundIn_of_wpIn hfn (hassign _ x A _ ⟨_,hbg,wpIn_mono hbd ?_⟩)⟩
  rintro e a3 B ⟨rfl,hko,hpp,hIB⟩
  have z2:=hko.same _ _ k2 rfl
  have z3:=hko.same _ _ k3 rfl
  have hend:=run_endRound (P:=P) none z2
  refine ⟨_,_,hend,rfl,⟨?_,?_,?_⟩,?_⟩
  ·exact hIl _ B _ _ _ hIB (by omega) z2 rfl
  ·rw [World.putObj_heap_same (block_lt z2)]
   simp only [Option.isNone_none,if_pos]
   rw [(hRs _ _).1]
  ·exact (World.putObj_heap_other (by omega)).trans z3
  ·exact (World.putObj_heap_other (by omega)).trans (hpp.trans kp)
 ·rintro e B ⟨⟨v,rfl⟩,q1,q2,q3⟩
  have hend:=run_endLoop (P:=P) q2 (by rw [(hRp _).2.1];simp)
  rw [(hRp _).2.2] at hend
  exact ⟨none,_,hend,hdone _ _ (Nat.le_refl _) (hIl _ B _ _ _ q1 (by omega) q2 rfl) ((World.putObj_heap_other (by omega)).trans q3)⟩
end Go.Proofs.YtegbdaffhpiacaaGreatDoor

namespace Go.Proofs.YtegbdaffhpiacaaGreatDoor
open Go.RowKit Ar
attribute [local go_sem] Oper.semAt_some
theorem marks_down (m:M3):∃ xs:List Nat,xs.Pairwise (· > ·)/\∀ k,m.has k=true↔k∈xs:=by
 refine ⟨((List.range 192).filter (fun k=>m.has k)).reverse,?_,fun k=>?_⟩
 ·rw [List.pairwise_reverse]
  exact (List.pairwise_lt_range (n:=192)).filter _
 ·rw [List.mem_reverse,List.mem_filter,List.mem_range]
  exact ⟨fun h=>⟨M3.has_lt h,h⟩,fun h=>h.2⟩
theorem drop_max {xs:List Nat} (h:xs.Pairwise (· > ·)) {j x:Nat} (hx:xs[j]?=some x):x∈xs.drop j/\(∀ k∈xs.drop j,k<=x)/\∀ k,k∈xs.drop (j+1)↔k∈xs.drop j/\k ≠ x:=by
 have hlt:=(List.getElem?_eq_some_iff.1 hx).1
 have e:xs.drop j=x :: xs.drop (j+1):=by
  rw [List.drop_eq_getElem_cons hlt,(List.getElem?_eq_some_iff.1 hx).2]
 have hp:=h.sublist (List.drop_sublist j xs)
 rw [e] at hp ⊢
 rw [List.pairwise_cons] at hp
 refine ⟨by simp,fun k hk=>?_,fun k=>⟨fun hk=>⟨by simp [hk],fun e=>?_⟩,fun hk=>?_⟩⟩
 ·rcases List.mem_cons.1 hk with e | e
  ·omega
  ·have:=hp.1 k e;omega
 ·have:=hp.1 k hk;omega
 ·rcases List.mem_cons.1 hk.1 with e | e
  ·exact absurd e hk.2
  ·exact e
set_option maxHeartbeats 400000 in
theorem allMarks_any {w:World} (m:M3):Calls Tryz.prog 181 #[m.val] w fun e w'=>∃ p,e=.returned (.func (.func 211) #[] #[.pointer (some ⟨p,0,none⟩)])/\p=w.heap.size/\Ext (fun _=>False) w w'/\w'.heap[p]?=some (.cells #[.int .u64 m.a.toNat,.int .u64 m.b.toNat,.int .u64 m.c.toNat] 197):=by
 unfold M3.val u64
 go_enter Tryz.func181,Tryz.ntmps181
 go_wp2_with fail
 go_ret
 exact ⟨_,rfl,rfl,(Ext.refl _ w).alloc _,heap_alloc_new w _⟩
def boolOf:Value->Bool
 | .bool b=>b
 | _=>false
set_option maxRecDepth 100000 in
set_option maxHeartbeats 1000000 in
theorem all_gives {w:World} {p:Nat} {m:M3} {xs:List Nat} (hpw:xs.Pairwise (· > ·)) (hm:∀ k,m.has k=true↔k∈xs) (kp:w.heap[p]?=some (.cells #[.int .u64 m.a.toNat,.int .u64 m.b.toNat,.int .u64 m.c.toNat] 197)) (n:Nat) (hn:1<=n) :
  GivesAll Tryz.prog n 211 #[.pointer (some ⟨p,0,none⟩)] (fun x:Nat=>#[.int .i64 (x:Int)]) p xs w:=by
 intro l J W hW hst hY h0
 have kpW:=(hW.block _ (block_lt kp) (fun f=>f)).trans kp
 have c0:=cell_of_block kpW 0
 have c1:=cell_of_block kpW 1
 have c2:=cell_of_block kpW 2
 refine callsIn_of_wp Tryz.func211 rfl trivial ?_ rfl
 simp only [Tryz.ntmps211,List.size_toArray,List.length_cons,List.length_nil,Nat.reduceAdd,Nat.reduceSub,Array.replicate_succ,Array.replicate_zero,List.push_toArray,List.append_toArray,List.nil_append,List.cons_append]
 gi_wp2
 have HL:Hid (∀ (m':M3) (j:Nat),(∀ k,m'.has k=true↔k∈xs.drop j)->∀ W,Calls Tryz.prog 180 #[.agg #[.int .u64 m'.a.toNat,.int .u64 m'.b.toNat,.int .u64 m'.c.toNat]] W fun e w'=>e=.returned (.tuple #[.int .i64 ((xs[j]?.getD 0:Nat):Int),.bool (decide (j < xs.length))])/\Ext (fun _=>False) W w'):=by
  intro m' j hmj W
  refine (last_any m' W).mono ?_
  rintro e w' ⟨hx,⟨he,hno⟩ | ⟨k,he,hk,hk2⟩⟩
  ·have hj:¬j < xs.length:=fun hlt=>by
    have:=(hmj xs[j]).2 (drop_max hpw (List.getElem?_eq_getElem hlt)).1
    rw [hno] at this
    simp at this
   refine ⟨?_,hx⟩
   rw [he,decide_eq_false hj,List.getElem?_eq_none (by omega)]
   rfl
  ·have hkm:=(hmj k).1 hk
   have hj:j < xs.length:=by
    rcases Nat.lt_or_ge j xs.length with h | h
    ·exact h
    ·rw [List.drop_eq_nil_of_le h] at hkm;simp at hkm
   obtain ⟨d1,d2,_⟩:=drop_max hpw (List.getElem?_eq_getElem hj)
   have e1:k=xs[j]:=Nat.le_antisymm (d2 k hkm) (hk2 _ ((hmj _).2 d1))
   refine ⟨?_,hx⟩
   rw [he,decide_eq_true hj,e1]
   simp [hj]
 have HST:=hide hst
 have HY:=hide hY
 refine ⟨trivial,(callsIn_wide.2 (HL.out m 0 (by simpa using hm) W)).mono ?_⟩
 rintro e w1 ⟨rfl,hx1⟩
 have hJ1:=hst _ _ _ h0 (hx1.mono (fun _ _ f=>f.elim))
 have kp1:=(hx1.block _ (block_lt kpW) (fun f=>f)).trans kpW
 have HJ1:=hide hJ1
 have KP1:=hide kp1
 clear hst hY hJ1 kp1 c0 c1 c2 kpW h0 hx1
 gi_wp2
 gi_loopw [3,4] (fun nv mv wr=>∃ (j:Nat) (m':M3),j<=xs.length/\nv=.int .i64 ((xs[j]?.getD 0:Nat):Int)/\mv=.bool (decide (j < xs.length))/\wr.heap[p]?=some (.cells #[.int .u64 m'.a.toNat,.int .u64 m'.b.toNat,.int .u64 m'.c.toNat] 197)/\(∀ k,m'.has k=true↔k∈xs.drop j)/\J (xs.take j) wr) (fun nv mv _=>if boolOf mv=true then (intOf nv).toNat+1 else 0)
 case atStart=>exact ⟨0,m,Nat.zero_le _,rfl,rfl,KP1.out,by simpa using hm,HJ1.out⟩
 case round =>
  obtain ⟨j,m',hj,rfl,rfl,hpr,hmj,hJr⟩:=hrel
  have HPR:=hide hpr
  have HMJ:=hide hmj
  have HJR:=hide hJr
  by_cases hlt:j < xs.length
  ·obtain ⟨x,hx⟩:∃ x,xs[j]?=some x:=⟨_,List.getElem?_eq_getElem hlt⟩
   obtain ⟨dm1,dm2,dm3⟩:=drop_max hpw hx
   have hx192:x < 192:=M3.has_lt ((hmj x).2 dm1)
   have hpre:xs.take j++[x] <+: xs:=by rw [<- take_snoc2 hx];exact List.take_prefix _ _
   have e1:xs[j]?.getD 0=x:=by rw [hx];rfl
   have e2:decide (j < xs.length)=true:=decide_eq_true hlt
   rw [e1,e2]
   obtain ⟨fn,tmps,assign,body,hy,hR⟩:=HY.out (xs.take j) x wr hJr hpre
   have HX:=hide hx
   have HE1:=hide e1
   have HDM:=hide (And.intro dm1 (And.intro dm2 dm3))
   clear hpr hmj hJr hx dm1 dm2 dm3 hpre e1 e2
   gi_wp2
   refine hR.mono ?_
   rintro e W3 ⟨rfl,hJ3,hp3⟩
   have kp3:=hp3.trans HPR.out
   have g0:=cell_of_block kp3 0
   have g1:=cell_of_block kp3 1
   have g2:=cell_of_block kp3 2
   have HJ3:=hide hJ3
   have KP3:=hide kp3
   clear hJ3 hp3 kp3 hR hy
   have HOF:Hid (∀ W,Calls Tryz.prog 179 #[.int .i64 x] W fun e w'=>e=.returned (.agg #[.int .u64 (M3.of x).a.toNat,.int .u64 (M3.of x).b.toNat,.int .u64 (M3.of x).c.toNat])/\Ext (fun _=>False) W w'):=fun W=>of_any x hx192 W
   have HWT:Hid (∀ W,Calls Tryz.prog 183 #[.agg #[.int .u64 m'.a.toNat,.int .u64 m'.b.toNat,.int .u64 m'.c.toNat],.agg #[.int .u64 (M3.of x).a.toNat,.int .u64 (M3.of x).b.toNat,.int .u64 (M3.of x).c.toNat]] W fun e w'=>e=.returned (.agg #[.int .u64 (m'.sub (M3.of x)).a.toNat,.int .u64 (m'.sub (M3.of x)).b.toNat,.int .u64 (m'.sub (M3.of x)).c.toNat])/\Ext (fun _=>False) W w'):=fun W=>less_any m' (M3.of x) W
   have hmj1:∀ k,(m'.sub (M3.of x)).has k=true↔k∈xs.drop (j+1):=by
    intro k
    rw [M3.has_sub,HDM.out.2.2 k,<- HMJ.out k]
    simp only [Bool.and_eq_true,Bool.not_eq_true']
    refine and_congr_right fun hk=>?_
    rw [M3.has_of hx192]
    simp [eq_comm]
   have HMJ1:=hide hmj1
   have KD:Hid (W3.drew.heap[p]?=_):=KP3
   clear hmj1
   gi_wp2
   gi_region_with (first
    | (refine ⟨trivial,?_⟩;gi_at_call 183;refine (callsIn_wide.2 (HWT.out _)).mono ?_;rintro e wb ⟨rfl,hxb⟩;have kb:=(hxb.block _ (block_lt KPA.out) (fun f=>f)).trans KPA.out;have b0:=cell_of_block kb 0;have b1:=cell_of_block kb 1;have b2:=cell_of_block kb 2;have bf0:=frozen_of_block kb 0;have bf1:=frozen_of_block kb 1;have bf2:=frozen_of_block kb 2;have KPB:=hide kb;have HXB:=hide hxb;clear kb hxb)
    | (refine ⟨trivial,?_⟩;gi_at_call 179;refine (callsIn_wide.2 (HOF.out _)).mono ?_;rintro e wa ⟨rfl,hxa⟩;have ka:=(hxa.block _ (block_lt KD.out) (fun f=>f)).trans KD.out;have a0:=cell_of_block ka 0;have a1:=cell_of_block ka 1;have a2:=cell_of_block ka 2;have KPA:=hide ka;have HXA:=hide hxa;clear ka hxa)
    | fail)
   all_goals
    have hxw:Ext (fun _=>False) W3 wb:=((Ext.refl (fun _=>False) W3).drew.trans HXA.out).trans HXB.out
    have hx3:=three_ext wb p (.int .u64 (m'.sub (M3.of x)).a.toNat) (.int .u64 (m'.sub (M3.of x)).b.toNat) (.int .u64 (m'.sub (M3.of x)).c.toNat)
    have hJ4:=HST.out _ _ _ HJ3.out ((hxw.mono (fun _ _ f=>f.elim)).trans' hx3 (fun _ _ e=>e))
    have kp4:(((wb.setCell ⟨p,0,none⟩ (.int .u64 (m'.sub (M3.of x)).a.toNat)).setCell ⟨p,1,none⟩ (.int .u64 (m'.sub (M3.of x)).b.toNat)).setCell ⟨p,2,none⟩ (.int .u64 (m'.sub (M3.of x)).c.toNat)).heap[p]?=some (.cells #[.int .u64 (m'.sub (M3.of x)).a.toNat,.int .u64 (m'.sub (M3.of x)).b.toNat,.int .u64 (m'.sub (M3.of x)).c.toNat] 197):=block_setCell (block_setCell (block_setCell KPB.out 0 _) 1 _) 2 _
    obtain ⟨W4,hW4⟩:∃ W4,(((wb.setCell ⟨p,0,none⟩ (.int .u64 (m'.sub (M3.of x)).a.toNat)).setCell ⟨p,1,none⟩ (.int .u64 (m'.sub (M3.of x)).b.toNat)).setCell ⟨p,2,none⟩ (.int .u64 (m'.sub (M3.of x)).c.toNat))=W4:=⟨_,rfl⟩
    rw [hW4] at hJ4 kp4
    have p0:=cell_of_block kp4 0
    have p1:=cell_of_block kp4 1
    have p2:=cell_of_block kp4 2
    have HJ4:=hide hJ4
    have KP4:=hide kp4
    have HW4:=hide hW4
    clear hJ4 kp4 hW4 hx3 hxw
    gi_wp2
    rw [HW4.out]
    refine ⟨trivial,(callsIn_wide.2 (HL.out _ (j+1) HMJ1.out W4)).mono ?_⟩
    rintro e w5 ⟨rfl,hx5⟩
    have HJ5:=hide (HST.out _ _ _ HJ4.out (hx5.mono (fun _ _ f=>f.elim)))
    have KP5:=hide ((hx5.block _ (block_lt KP4.out) (fun f=>f)).trans KP4.out)
    have hms:j+1 < xs.length->xs[j+1]?.getD 0 < x:=by
     intro hj1
     have h1:xs[j+1]?=some xs[j+1]:=List.getElem?_eq_getElem hj1
     have h2:=(drop_max hpw h1).1
     obtain ⟨h3,h4⟩:=(HDM.out.2.2 _).1 h2
     have h5:=HDM.out.2.1 _ h3
     rw [h1]
     show xs[j+1] < x
     omega
    have HMS:=hide hms
    clear hms hx5 p0 p1 p2 HW4
    gi_wp2
    go_roundw
    case measure =>
     by_cases hj1:j+1 < xs.length
     ·have:=HMS.out hj1
      simp [boolOf,intOf,hj1] at this ⊢
      omega
     ·simp [boolOf,intOf,hj1]
    case rel =>
     refine ⟨j+1,_,by omega,rfl,rfl,KP5.out,HMJ1.out,?_⟩
     rw [take_snoc2 HX.out]
     exact HJ5.out
  ·have e2:decide (j < xs.length)=false:=decide_eq_false hlt
   have hjl:j=xs.length:=by omega
   rw [e2]
   clear hpr hmj hJr e2
   gi_wp2
   go_end0
   refine ⟨⟨_,rfl⟩,?_⟩
   have:=HJR.out
   rw [hjl,List.take_length] at this
   exact this
end Go.Proofs.YtegbdaffhpiacaaGreatDoor

namespace Go.Proofs.YtegbdaffhpiacaaGreatDoor
open Go.RowKit Ar
def isTw (TK:List TKey) (f s:Nat):Bool:=match TK[f]?,TK[s]? with
 | some x,some y=>decide (0 < y.ar) && decide (y.nm=x.nm/\y.ar=x.ar)
 | _,_=>false
def twRow (TK:List TKey) (s k:Nat):List (Nat × Nat):=((List.range k).filter (fun f=>isTw TK f s)).map (fun f=>(f,s))
def twTo (TK:List TKey) (k:Nat):List (Nat × Nat):=(List.range k).flatMap (fun s=>twRow TK s s)
def twOf (TK:List TKey):List (Nat × Nat):=twTo TK TK.length
theorem twRow_zero (TK:List TKey) (s:Nat):twRow TK s 0=[]:=rfl
theorem twRow_succ (TK:List TKey) (s k:Nat):twRow TK s (k+1)=if isTw TK k s=true then twRow TK s k++[(k,s)] else twRow TK s k:=by
 unfold twRow
 rw [List.range_succ,List.filter_append,List.map_append]
 split
 ·rename_i h;simp [h]
 ·rename_i h;simp [h]
theorem twTo_zero (TK:List TKey):twTo TK 0=[]:=rfl
theorem twTo_succ (TK:List TKey) (k:Nat):twTo TK (k+1)=twTo TK k++twRow TK k k:=by
 unfold twTo
 rw [List.range_succ,List.flatMap_append]
 simp
theorem twRow_len (TK:List TKey) (s k:Nat):(twRow TK s k).length<=k:=by
 unfold twRow
 rw [List.length_map]
 exact Nat.le_trans (List.length_filter_le _ _) (by simp)
theorem twTo_len (TK:List TKey):∀ k,(twTo TK k).length<=k * k
 | 0=>by simp [twTo_zero]
 | k+1=>by
  have h1:=twTo_len TK k
  have h2:=twRow_len TK k k
  rw [twTo_succ,List.length_append]
  have:(k+1) * (k+1)=k * k+k+(k+1):=by rw [Nat.add_mul,Nat.mul_add];omega
  omega
theorem mem_twRow {TK:List TKey} {s k:Nat} {p:Nat × Nat}:p∈twRow TK s k↔p.2=s/\p.1 < k/\isTw TK p.1 s=true:=by
 obtain ⟨a,b⟩:=p
 simp only [twRow,List.mem_map,List.mem_filter,List.mem_range,Prod.mk.injEq]
 constructor
 ·rintro ⟨f,⟨h1,h2⟩,rfl,rfl⟩;exact ⟨rfl,h1,h2⟩
 ·rintro ⟨rfl,h1,h2⟩;exact ⟨a,⟨h1,h2⟩,rfl,rfl⟩
theorem mem_tw {TK:List TKey} {p:Nat × Nat}:p∈twOf TK↔p.1 < p.2/\isTw TK p.1 p.2=true:=by
 unfold twOf twTo
 rw [List.mem_flatMap]
 constructor
 ·rintro ⟨s,_,hs⟩
  obtain ⟨rfl,h1,h2⟩:=mem_twRow.1 hs
  exact ⟨h1,h2⟩
 ·rintro ⟨h1,h2⟩
  refine ⟨p.2,?_,mem_twRow.2 ⟨rfl,h1,h2⟩⟩
  rw [List.mem_range]
  unfold isTw at h2
  split at h2
  ·rename_i x y e1 e2;exact (List.getElem?_eq_some_iff.1 e2).1
  ·simp at h2
theorem isTw_iff {TK:List TKey} {f s:Nat} {x y:TKey} (hx:TK[f]?=some x) (hy:TK[s]?=some y):isTw TK f s=true↔0 < y.ar/\y.nm=x.nm/\y.ar=x.ar:=by
 unfold isTw
 rw [hx,hy]
 simp
theorem isTw_ex {TK:List TKey} {f s:Nat} (h:isTw TK f s=true):∃ x y,TK[f]?=some x/\TK[s]?=some y/\0 < y.ar/\y.nm=x.nm/\y.ar=x.ar:=by
 unfold isTw at h
 split at h
 ·rename_i x y e1 e2
  simp at h
  exact ⟨x,y,e1,e2,h⟩
 ·simp at h
def numOf (TK:List TKey) (i:Nat):Option Int:=match TK[i]? with
 | some x=>if x.nm=⟨#[]⟩ then some x.v else none
 | none=>none
def prsOf (TK:List TKey) (p:Nat × Nat):List (Nat × Nat):=match TK[p.1]?,TK[p.2]? with
 | some x,some y=>(((argsI x).zip (argsI y)).take x.ar.toNat).map (fun z=>(z.1.toNat,z.2.toNat))
 | _,_=>[]
def grT (TK:List TKey) (m:Int):Int:=TK.foldl (fun m x=>max m (max x.v (-x.v))) m
def grA (AK:List PA) (m:Int):Int:=AK.foldl (fun m x=>max m (max x.b (-x.b))) m
def farOf (TK:List TKey) (AK:List PA):Int:=TK.length * (grA AK (grT TK 0)+1)
def fxOf (TK:List TKey) (AK:List PA):Fx:=⟨TK.length,numOf TK,twOf TK,prsOf TK,farOf TK AK⟩
theorem fold_max {α:Type} (f : α->Int) (B:Int):∀ (l:List α) (m:Int),m<=B->(∀ x∈l,f x<=B)->m<=l.foldl (fun m x=>max m (f x)) m/\l.foldl (fun m x=>max m (f x)) m<=B/\∀ x∈l,f x<=l.foldl (fun m x=>max m (f x)) m
 | [],m,hm,_=>⟨by simp,by simpa using hm,by simp⟩
 | a :: l,m,hm,h=>by
  have ha:=h a (by simp)
  obtain ⟨h1,h2,h3⟩:=fold_max f B l (max m (f a)) (by omega) (fun x hx=>h x (by simp [hx]))
  simp only [List.foldl_cons]
  refine ⟨by omega,h2,fun x hx=>?_⟩
  rcases List.mem_cons.1 hx with e | e
  ·subst e;omega
  ·exact h3 x e
theorem grT_le {TK:List TKey} {m B:Int} (hm:m<=B) (h:∀ x∈TK,-B<=x.v/\x.v<=B):m<=grT TK m/\grT TK m<=B/\∀ x∈TK,x.v<=grT TK m /\ -(grT TK m)<=x.v:=by
 obtain ⟨h1,h2,h3⟩:=fold_max (fun x:TKey=>max x.v (-x.v)) B TK m hm (fun x hx=>by have:=h x hx;omega)
 refine ⟨h1,h2,fun x hx=>?_⟩
 have h4:=h3 x hx
 unfold grT
 omega
theorem grA_le {AK:List PA} {m B:Int} (hm:m<=B) (h:∀ x∈AK,-B<=x.b/\x.b<=B):m<=grA AK m/\grA AK m<=B/\∀ x∈AK,x.b<=grA AK m /\ -(grA AK m)<=x.b:=by
 obtain ⟨h1,h2,h3⟩:=fold_max (fun x:PA=>max x.b (-x.b)) B AK m hm (fun x hx=>by have:=h x hx;omega)
 refine ⟨h1,h2,fun x hx=>?_⟩
 have h4:=h3 x hx
 unfold grA
 omega
structure KOk (TK:List TKey) (AK:List PA):Prop where
 ar:∀ x∈TK,0<=x.ar/\x.ar<=3
 arg:∀ x∈TK,∀ (k:Nat) (a:Int),(k:Int) < x.ar->(argsI x)[k]?=some a->0<=a/\a < TK.length
 v:∀ x∈TK,-1000<=x.v/\x.v<=1000
 at_:∀ x∈AK,x.at_.Ok/\x.i < TK.length/\x.j < TK.length
 b:∀ x∈AK,-1000<=x.b/\x.b<=1000
section
variable {TK:List TKey} {AK:List PA}
theorem KOk.far (h:KOk TK AK) (hT:TK.length<=12):0<=farOf TK AK/\farOf TK AK<=12012/\farOf TK AK=TK.length * (grA AK (grT TK 0)+1)/\0<=grA AK (grT TK 0):=by
 obtain ⟨h1,h2,_⟩:=grT_le (m:=0) (B:=1000) (by omega) h.v
 obtain ⟨h3,h4,_⟩:=grA_le (m:=grT TK 0) (B:=1000) (by omega) h.b
 refine ⟨?_,?_,rfl,by omega⟩
 ·unfold farOf
  exact Int.mul_nonneg (by omega) (by omega)
 ·unfold farOf
  have:(TK.length:Int) * (grA AK (grT TK 0)+1)<=12 * 1001:=Int.mul_le_mul (by omega) (by omega) (by omega) (by omega)
  omega
theorem argsI_len (x:TKey):(argsI x).length=3:=rfl
theorem prsOf_eq {p:Nat × Nat} {x y:TKey} (hx:TK[p.1]?=some x) (hy:TK[p.2]?=some y):prsOf TK p=(((argsI x).zip (argsI y)).take x.ar.toNat).map (fun z=>(z.1.toNat,z.2.toNat)):=by
 unfold prsOf
 rw [hx,hy]
theorem prsOf_get {p:Nat × Nat} {x y:TKey} (hx:TK[p.1]?=some x) (hy:TK[p.2]?=some y) {k:Nat} {q:Nat × Nat} (hq:(prsOf TK p)[k]?=some q):(k:Int) < x.ar/\∃ a b,(argsI x)[k]?=some a/\(argsI y)[k]?=some b/\q=(a.toNat,b.toNat):=by
 rw [prsOf_eq hx hy,List.getElem?_map] at hq
 cases e:(((argsI x).zip (argsI y)).take x.ar.toNat)[k]? with
 | none=>rw [e] at hq;simp at hq
 | some z =>
  rw [e] at hq
  simp at hq
  obtain ⟨hk,e⟩:=take_get e
  rw [List.getElem?_zip_eq_some] at e
  exact ⟨by omega,z.1,z.2,e.1,e.2,hq.symm⟩
theorem KOk.prs (h:KOk TK AK) {p:Nat × Nat} {x y:TKey} (hx:TK[p.1]?=some x) (hy:TK[p.2]?=some y) (har:y.ar=x.ar):∃ zs:List (PN2 TK.length),Prs x y x.ar.toNat zs/\prsOf TK p=zs.map (·.1):=by
 have hxm:=List.mem_of_getElem? hx
 have hym:=List.mem_of_getElem? hy
 have hb:∀ q∈prsOf TK p,q.1 < TK.length/\q.2 < TK.length:=by
  intro q hq
  obtain ⟨k,hk⟩:=List.getElem?_of_mem hq
  obtain ⟨h1,a,b,h2,h3,rfl⟩:=prsOf_get hx hy hk
  have ha:=h.arg x hxm k a h1 h2
  have hb:=h.arg y hym k b (by omega) h3
  show a.toNat < _/\b.toNat < _
  omega
 refine ⟨(prsOf TK p).pmap Subtype.mk hb,⟨?_,?_,?_,?_⟩,?_⟩
 ·have:=(h.ar x hxm).1;omega
 ·have:=(h.ar x hxm).2;omega
 ·rw [List.length_pmap,prsOf_eq hx hy,List.length_map,List.length_take,List.length_zip,argsI_len,argsI_len]
  have:=h.ar x hxm;omega
 ·intro k z hz
  rw [List.getElem?_pmap] at hz
  cases e:(prsOf TK p)[k]? with
  | none=>simp [e] at hz
  | some q =>
   simp [e] at hz
   subst hz
   obtain ⟨h1,a,b,h2,h3,rfl⟩:=prsOf_get hx hy e
   have ha:=h.arg x hxm k a h1 h2
   have hb:=h.arg y hym k b (by omega) h3
   refine ⟨h2.trans (congrArg some ?_),h3.trans (congrArg some ?_)⟩
   ·show a=((a.toNat:Nat):Int);omega
   ·show b=((b.toNat:Nat):Int);omega
 ·rw [List.map_pmap]
  simp
theorem KOk.fx (h:KOk TK AK):FxOk (fxOf TK AK) TK (twOf TK):=by
 refine ⟨rfl,rfl,fun p hp=>?_⟩
 obtain ⟨h1,h2⟩:=mem_tw.1 hp
 obtain ⟨x,y,hx,hy,h3,h4,h5⟩:=isTw_ex h2
 obtain ⟨zs,h6,h7⟩:=h.prs hx hy h5
 exact ⟨x,y,_,zs,hx,hy,h6,h7⟩
theorem KOk.fok (h:KOk TK AK):(fxOf TK AK).Ok:=by
 intro p hp
 obtain ⟨h1,h2⟩:=mem_tw.1 hp
 obtain ⟨x,y,hx,hy,h3,h4,h5⟩:=isTw_ex h2
 obtain ⟨zs,h6,h7⟩:=h.prs hx hy h5
 refine ⟨⟨(List.getElem?_eq_some_iff.1 hx).1,(List.getElem?_eq_some_iff.1 hy).1⟩,fun q hq=>?_⟩
 have hq':q∈prsOf TK p:=hq
 rw [h7] at hq'
 obtain ⟨z,_,rfl⟩:=List.mem_map.1 hq'
 exact z.2
end
end Go.Proofs.YtegbdaffhpiacaaGreatDoor
