/- A theory in memory: the iterator over the arguments of twins; A theory in memory: are the arguments of twins known to be equal?; A theory in memory: mapped; A theory in memory: have the arguments of twins the same greatest values, and need they not?. -/
import Derived.Test.YtegbdaffhpiacaaGreatDoorBck26
import Derived.RangeFuncNested
import Derived.RangeFuncBound
import Derived.RangeFuncCalls
import Derived.RangeFuncLeaves
import Derived.Shelf.Abstract
import Derived.OwnWalkIn
import Derived.TacticsInMore
import Derived.LoopNIn
import Derived.LoopIn
import Derived.Stop.RegionWithIn
namespace Go.Proofs.YtegbdaffhpiacaaGreatDoor
open Go.RowKit Ar
attribute [local go_sem] Oper.semAt_some
def ze7 (x:Z0):List Int:=[x.a0,x.a1,x.a2]
abbrev PN2 (m:Nat) := { z:Nat × Nat // z.1 < m/\z.2 < m }
structure Prs {m:Nat} (x y:Z0) (ar:Nat) (zs:List (PN2 m)):Prop where
 arn:x.ar=ar
 le:ar<=3
 len:zs.length=ar
 get:∀ (k:Nat) (z:PN2 m),zs[k]?=some z->(ze7 x)[k]?=some (z.1.1:Int)/\(ze7 y)[k]?=some (z.1.2:Int)
theorem za4 {α:Type} {l:List α} {k:Nat} {z : α} (h:l[k]?=some z):l.take (k+1)=l.take k++[z]:=by
 rw [List.take_add_one,h];rfl
theorem zV3 {J Jx:World->Prop} {K:World->Prop} {e:Ending} {W:World} (h:(e=.returned (.bool true)/\J W/\K W)\/(e=.returned (.bool false)/\Jx W)):∃ ok:Bool,e=.returned (.bool ok)/\(ok=true->J W/\K W)/\(ok=false->Jx W):=by
 rcases h with ⟨h1,h2⟩ | ⟨h1,h2⟩
 ·exact ⟨true,h1,fun _=>h2,fun e=>by simp at e⟩
 ·exact ⟨false,h1,fun e=>by simp at e,fun _=>h2⟩
def zO1 (p q:Nat) (W W':World):Prop:=W'.heap[p]?=W.heap[p]?/\W'.heap[q]?=W.heap[q]?
set_option maxRecDepth 100000 in
set_option maxHeartbeats 2000000 in
theorem qK0 {m:Nat} (l p q:Nat) (x y:Z0) (ar:Nat) (zs:List (PN2 m)) (hP:Prs x y ar zs) (n:Nat) (hn:1<=n) (J Jx:List (PN2 m)->World->Prop)
  (hY:∀ pre z W,J pre W->pre.length < ar->YieldAt Fence.wide (n - 1) Tryz.prog l #[.int .i64 z.1.1,.int .i64 z.1.2] W fun e W' =>
   (e=.returned (.bool true)/\J (pre++[z]) W'/\zO1 p q W W')\/(e=.returned (.bool false)/\Jx (pre++[z]) W'))
  (hdr:∀ pre W,J pre W->J pre W.drew)
  (W:World) (kp:W.heap[p]?=some (.cells (zd0 x) 145)) (kq:W.heap[q]?=some (.cells (zd0 y) 145)) (h0:J [] W) :
  CallsIn Fence.wide n Tryz.prog 275 #[.func (.yield l) #[] #[],.pointer (some ⟨p,0,none⟩),.pointer (some ⟨q,0,none⟩)] W fun e W'=>(∃ v,e=.returned v) /\
   ((∃ ys,ys=zs/\J ys W')\/(∃ pre,(∃ k,k<=ar/\pre=zs.take k)/\Jx pre W')):=by
 have har3:=hP.le
 have p1:W.cell? ⟨p,1,none⟩=some (.int .i64 ar):=by rw [<- hP.arn];exact z6 kp 1
 refine callsIn_of_wp Tryz.func275 rfl trivial ?_ rfl
 simp only [Tryz.ntmps275,List.size_toArray,List.length_cons,List.length_nil,Nat.reduceAdd,Nat.reduceSub,Array.replicate_succ,Array.replicate_zero,List.push_toArray,List.append_toArray,List.nil_append,List.cons_append]
 gi_wp2
 gi_loopw [8] (fun i wr=>∃ k:Nat,k<=ar/\i=.int .i64 k/\J (zs.take k) wr/\zO1 p q W wr) (fun i _=>ar - (intOf i).toNat)
 case atStart=>exact ⟨0,Nat.zero_le _,rfl,h0,rfl,rfl⟩
 case round =>
  obtain ⟨k,hk,rfl,hJs,hkp⟩:=hrel
  have kp2:=hkp.1.trans kp
  have kq2:=hkp.2.trans kq
  by_cases hlt:k < ar
  ·obtain ⟨z,hz⟩:∃ z,zs[k]?=some z:=⟨_,List.getElem?_eq_getElem (by rw [hP.len];exact hlt)⟩
   obtain ⟨hza,hzb⟩:=hP.get k z hz
   have hc:k=0\/k=1\/k=2:=by omega
   rcases hc with rfl | rfl | rfl <;> simp only [ze7,List.getElem?_cons_zero,List.getElem?_cons_succ,Option.some.injEq] at hza hzb
   ·have a1:wr.cell? ⟨p,2,none⟩=some (.int .i64 z.1.1):=by rw [<- hza];exact z6 kp2 2
    have b1:wr.cell? ⟨q,2,none⟩=some (.int .i64 z.1.2):=by rw [<- hzb];exact z6 kq2 2
    obtain ⟨fn,tmps,assign,body,hy,hR⟩:=hY _ z wr.drew (hdr _ _ hJs) (by rw [List.length_take,hP.len];omega)
    have HP2:=q8 hkp
    have HZ:=q8 hz
    clear hza hzb hz
    gi_wp2
    gi_region_with (refine hR.mono ?_;rintro e W3 hh;obtain ⟨ok,rfl,hJ3,hJx3⟩:=zV3 (J:=J (zs.take 0++[z])) (Jx:=Jx (zs.take 0++[z])) (K:=zO1 p q wr.drew) hh;have HJ3:=q8 hJ3;have HJX3:=q8 hJx3;clear hh hJ3 hJx3)
    all_goals
     cases ok with
     | true =>
      gi_wp2
      go_roundw
      case rel=>exact ⟨1,by omega,by go_num,by rw [za4 HZ.out];exact (HJ3.out rfl).1,((HJ3.out rfl).2.1).trans HP2.out.1,((HJ3.out rfl).2.2).trans HP2.out.2⟩
      case measure=>simp [intOf];omega
     | false =>
      gi_wp2
      refine bodyPost_ret (results_none rfl _ _ _) rfl ?_
      exact ⟨⟨_,rfl⟩,.inr ⟨_,⟨1,by omega,rfl⟩,by rw [za4 HZ.out];exact HJX3.out (by simp)⟩⟩
   ·have a1:wr.cell? ⟨p,3,none⟩=some (.int .i64 z.1.1):=by rw [<- hza];exact z6 kp2 3
    have b1:wr.cell? ⟨q,3,none⟩=some (.int .i64 z.1.2):=by rw [<- hzb];exact z6 kq2 3
    obtain ⟨fn,tmps,assign,body,hy,hR⟩:=hY _ z wr.drew (hdr _ _ hJs) (by rw [List.length_take,hP.len];omega)
    have HP2:=q8 hkp
    have HZ:=q8 hz
    clear hza hzb hz
    gi_wp2
    gi_region_with (refine hR.mono ?_;rintro e W3 hh;obtain ⟨ok,rfl,hJ3,hJx3⟩:=zV3 (J:=J (zs.take 1++[z])) (Jx:=Jx (zs.take 1++[z])) (K:=zO1 p q wr.drew) hh;have HJ3:=q8 hJ3;have HJX3:=q8 hJx3;clear hh hJ3 hJx3)
    all_goals
     cases ok with
     | true =>
      gi_wp2
      go_roundw
      case rel=>exact ⟨2,by omega,by go_num,by rw [za4 HZ.out];exact (HJ3.out rfl).1,((HJ3.out rfl).2.1).trans HP2.out.1,((HJ3.out rfl).2.2).trans HP2.out.2⟩
      case measure=>simp [intOf];omega
     | false =>
      gi_wp2
      refine bodyPost_ret (results_none rfl _ _ _) rfl ?_
      exact ⟨⟨_,rfl⟩,.inr ⟨_,⟨2,by omega,rfl⟩,by rw [za4 HZ.out];exact HJX3.out (by simp)⟩⟩
   ·have a1:wr.cell? ⟨p,4,none⟩=some (.int .i64 z.1.1):=by rw [<- hza];exact z6 kp2 4
    have b1:wr.cell? ⟨q,4,none⟩=some (.int .i64 z.1.2):=by rw [<- hzb];exact z6 kq2 4
    obtain ⟨fn,tmps,assign,body,hy,hR⟩:=hY _ z wr.drew (hdr _ _ hJs) (by rw [List.length_take,hP.len];omega)
    have HP2:=q8 hkp
    have HZ:=q8 hz
    clear hza hzb hz
    gi_wp2
    gi_region_with (refine hR.mono ?_;rintro e W3 hh;obtain ⟨ok,rfl,hJ3,hJx3⟩:=zV3 (J:=J (zs.take 2++[z])) (Jx:=Jx (zs.take 2++[z])) (K:=zO1 p q wr.drew) hh;have HJ3:=q8 hJ3;have HJX3:=q8 hJx3;clear hh hJ3 hJx3)
    all_goals
     cases ok with
     | true =>
      gi_wp2
      go_roundw
      case rel=>exact ⟨3,by omega,by go_num,by rw [za4 HZ.out];exact (HJ3.out rfl).1,((HJ3.out rfl).2.1).trans HP2.out.1,((HJ3.out rfl).2.2).trans HP2.out.2⟩
      case measure=>simp [intOf];omega
     | false =>
      gi_wp2
      refine bodyPost_ret (results_none rfl _ _ _) rfl ?_
      exact ⟨⟨_,rfl⟩,.inr ⟨_,⟨3,by omega,rfl⟩,by rw [za4 HZ.out];exact HJX3.out (by simp)⟩⟩
  ·obtain rfl:k=ar:=by omega
   gi_wp2
   go_end0
   exact ⟨⟨_,rfl⟩,.inl ⟨_,by rw [<- hP.len,List.take_length],hJs⟩⟩
theorem ql6 (W:World):W.grownBy W.drew none:=⟨rfl,rfl,rfl,Nat.le_refl _,fun _ _ _=>rfl⟩
theorem zI6 {m:Nat} {w:World} {p q:Nat} {x y:Z0} {ar:Nat} {zs:List (PN2 m)} (hP:Prs x y ar zs) (kp:w.heap[p]?=some (.cells (zd0 x) 145)) (kq:w.heap[q]?=some (.cells (zd0 y) 145)) (n:Nat) (hn:1<=n) :
  SeqStopsK Fence.wide n Tryz.prog 275 #[.pointer (some ⟨p,0,none⟩),.pointer (some ⟨q,0,none⟩)] (fun z:PN2 m=>#[.int .i64 z.1.1,.int .i64 z.1.2]) (zO1 p q) (fun ys=>ys=zs) (fun pre=>∃ k,k<=ar/\pre=zs.take k) ar w:=by
 intro l J Jx W hW hJ hJx hY h0
 exact qK0 l p q x y ar zs hP n hn J Jx hY (fun pre W1 h=>hJ pre W1 _ none h (ql6 W1) (fun r e=>by cases e)) W ((hW.block p (z8 kp)).trans kp) ((hW.block q (z8 kq)).trans kq) h0
theorem je9 {p q:Nat} {A B C:World} (h:zO1 p q A B) (k:zO1 p q B C):zO1 p q A C:=⟨k.1.trans h.1,k.2.trans h.2⟩
theorem jf0 {p q:Nat} {w:World} (hp:p < w.heap.size) (hq:q < w.heap.size) (W:World) (l:Nat) (o o':Obj) (hl:w.heap.size<=l) (_:W.heap[l]?=some o) (_:o.isCells=false) (_:o.isWalk=false):zO1 p q W (W.putObj l o') :=
 ⟨World.putObj_heap_other (by omega),World.putObj_heap_other (by omega)⟩
end Go.Proofs.YtegbdaffhpiacaaGreatDoor

namespace Go.Proofs.YtegbdaffhpiacaaGreatDoor
open Go.RowKit Ar
attribute [local go_sem] Oper.semAt_some
theorem Z7 {W W':World} {row:Option Nat} {k:Nat} {C:Array Value} {t:TypeId} (h:W.heap[k]?=some (.cells C t)) (hg:W.grownBy W' row) (hr:∀ r,row=some r->∃ o:Obj,W.heap[r]?=some o/\o.isCells=false):W'.heap[k]?=some (.cells C t):=by
 refine (hg.block k (z8 h) (fun e=>?_)).trans h
 obtain ⟨o,h1,h2⟩:=hr k (by first | exact e | exact e.symm)
 rw [h] at h1
 cases h1
 simp [Obj.isCells] at h2
theorem q9.toBelow {w w':World} (h:q9 (fun _=>False) w w'):Below w.heap.size w w':=⟨h.os,h.tape,h.output,h.size,fun k hk=>h.block k hk (fun f=>f)⟩
theorem q9.ofBelow {w w':World} (h:Below w.heap.size w w'):q9 (fun _=>False) w w':=⟨h.os,h.tape,h.output,h.size,fun k hk _=>h.block k hk⟩
theorem zc1 {B:Nat} {w w':World} (h:q9 (fun _=>False) w w') (hB:B<=w.heap.size):Below B w w':=⟨h.os,h.tape,h.output,h.size,fun k hk=>h.block k (by omega) (fun f=>f)⟩
theorem KeepsOthers.of_ext {w w':World} (h:q9 (fun _=>False) w w'):KeepsOthers w w' :=
 ⟨h.size,fun k _ hk _=>(h.block k (Array.getElem?_eq_some_iff.1 hk).1 (fun f=>f)).trans hk⟩
section
variable {w:World} {hb g:Nat} {c:ThV} {TK:List Z0} {AK:List PA} {tw:List (Nat × Nat)} {As:List (PA × Bool)} {TT:List Y5} {X:Y5} {F:Fx}
def KE (T:Tb) {m:Nat} (z:PN2 m):Prop:=T.by_ z.1.1 z.1.2<=0/\T.by_ z.1.2 z.1.1<=0
structure SmI {m:Nat} (T:Tb) (V:(Nat->Int)->Prop) (H:Nat->(Nat->Int)->Prop) (K:Nat) (pre:List (PN2 m)) (mk:M3):Prop where
 ke:∀ z∈pre,KE T z
 bl:J7 K mk
 eq:∀ v,V v->Hs H mk v->∀ z∈pre,v z.1.1=v z.1.2
theorem SmI.snoc {m:Nat} {far:Int} {T:Tb} {V:(Nat->Int)->Prop} {H:Nat->(Nat->Int)->Prop} {K:Nat} {pre:List (PN2 m)} {mk:M3} (h:SmI T V H K pre mk) {z:PN2 m} {n:Nat} (hI:V4 n far V H K T) (hm:m<=n) (hz:KE T z):SmI T V H K (pre++[z]) (mk.or ((T.why z.1.1 z.1.2).or (T.why z.1.2 z.1.1))):=by
 have h1:z.1.1 < n:=by have:=z.2.1;omega
 have h2:z.1.2 < n:=by have:=z.2.2;omega
 refine ⟨fun u hu=>?_,h.bl.or ((hI.mks _ _ h1 h2).or (hI.mks _ _ h2 h1)),fun v hv hh u hu=>?_⟩
 ·rcases List.mem_append.1 hu with e | e
  ·exact h.ke u e
  ·simp at e;subst e;exact hz
 ·rw [Hs.or,Hs.or] at hh
  rcases List.mem_append.1 hu with e | e
  ·exact h.eq v hv hh.1 u e
  ·simp at e
   subst e
   have a1:=hI.snd _ _ h1 h2 v hv hh.2.1
   have a2:=hI.snd _ _ h2 h1 v hv hh.2.2
   have a3:=hz.1
   have a4:=hz.2
   omega
set_option maxRecDepth 100000 in
set_option maxHeartbeats 2000000 in
theorem qV6 (h:ThR w hb g c TK AK tw As (TT++[X])) {a b:Nat} {x y:Z0} (hx:TK[a]?=some x) (hy:TK[b]?=some y) (hT:TK.length<=12) (hl:TT.length<=500) {ar:Nat} {zs:List (PN2 TK.length)} (hP:Prs x y ar zs) {far:Int} {V:(Nat->Int)->Prop} {H:Nat->(Nat->Int)->Prop} {K:Nat} (hI:V4 (TK.length+1) far V H K X.t) :
  CallsIn Fence.wide 5 Tryz.prog 274 #[.pointer (some ⟨hb,0,none⟩),.agg #[.int .i64 a,.int .i64 b]] w fun e w'=>∃ (mk:M3) (same:Bool),e=.returned (.tuple #[.agg #[.int .u64 mk.a.toNat,.int .u64 mk.b.toNat,.int .u64 mk.c.toNat],.bool same])/\Below w.heap.size w w'/\(same=true->SmI X.t V H K zs mk)/\(same=false->∃ z∈zs,¬KE X.t z):=by
 have HH:=q8 h
 have HP:=q8 hP
 have HI:=q8 hI
 have HARG:Hid (∀ W,q9 (fun _=>False) w W->Calls Tryz.prog 271 #[.pointer (some ⟨hb,0,none⟩),.agg #[.int .i64 a,.int .i64 b]] W fun e w'=>∃ p q,e=.returned (.func (.func 275) #[] #[.pointer (some ⟨p,0,none⟩),.pointer (some ⟨q,0,none⟩)])/\W.heap.size<=p/\W.heap.size<=q/\q9 (fun _=>False) W w'/\w'.heap[p]?=some (.cells (zd0 x) 145)/\w'.heap[q]?=some (.cells (zd0 y) 145)) :=
  fun W hxw=>qb7 (h.ext hxw (fun _ _ f=>f)) hx hy
 have HNOW:Hid (∀ W,q9 (fun _=>False) w W->Calls Tryz.prog 259 #[.pointer (some ⟨hb,0,none⟩)] W fun e w'=>e=.returned (.pointer (some ⟨g,TT.length * 681,none⟩))/\w' = W.drew):=by
  intro W hxw
  have:=zf5 (h.ext hxw (fun _ _ f=>f)) (by simp) (by simp;omega)
  rw [List.length_append,List.length_singleton,Nat.add_sub_cancel] at this
  exact this
 obtain ⟨C,kg,hTab,_⟩:=h.tab
 have HEQ:Hid (∀ (W:World) (z:PN2 TK.length),q9 (fun _=>False) w W->Calls Tryz.prog 272 #[.pointer (some ⟨g,TT.length * 681,none⟩),.int .i64 z.1.1,.int .i64 z.1.2] W fun e w'=>q9 (fun _=>False) W w'/\((e=.returned (.tuple #[.agg #[.int .u64 0,.int .u64 0,.int .u64 0],.bool false])/\¬KE X.t z)\/(e=.returned (.tuple #[((X.t.why z.1.1 z.1.2).or (X.t.why z.1.2 z.1.1)).val,.bool true])/\KE X.t z))) :=
  fun W z hxw=>zP4 ((hxw.block _ (z8 kg) (fun f=>f)).trans kg) hTab (by have:=z.2.1;omega) (by have:=z.2.2;omega)
 obtain ⟨off,hoff⟩:∃ off,TT.length * 681=off:=⟨_,rfl⟩
 rw [hoff] at HNOW HEQ
 obtain ⟨W0,hW0⟩:∃ W0,(((((w.alloc (Obj.cells #[.pointer (some ⟨hb,0,none⟩)] 139)).alloc (Obj.cells #[.int .i64 a,.int .i64 b] 151)).alloc (Obj.cells #[.int .u64 0,.int .u64 0,.int .u64 0] 197)).alloc (Obj.cells #[.bool false] 4)).alloc (Obj.cells #[.int .u64 0,.int .u64 0,.int .u64 0] 197))=W0:=⟨_,rfl⟩
 have hxW0:q9 (fun _=>False) w W0:=by rw [<- hW0];exact (((((q9.refl _ w).alloc _).alloc _).alloc _).alloc _).alloc _
 have hsz0:W0.heap.size=w.heap.size+5:=by rw [<- hW0];simp
 have k0:W0.heap[w.heap.size]?=some (.cells #[.pointer (some ⟨hb,0,none⟩)] 139):=by
  rw [<- hW0,heap_alloc_old _ _ (by simp;omega),heap_alloc_old _ _ (by simp;omega),heap_alloc_old _ _ (by simp;omega),heap_alloc_old _ _ (by simp)];exact heap_alloc_new w _
 have k2:W0.heap[w.heap.size+2]?=some (.cells #[.int .u64 0,.int .u64 0,.int .u64 0] 197):=by
  rw [<- hW0,heap_alloc_old _ _ (by simp),heap_alloc_old _ _ (by simp)]
  have:=heap_alloc_new ((w.alloc (Obj.cells #[.pointer (some ⟨hb,0,none⟩)] 139)).alloc (Obj.cells #[.int .i64 a,.int .i64 b] 151)) (Obj.cells #[.int .u64 0,.int .u64 0,.int .u64 0] 197)
  simpa using this
 have k3:W0.heap[w.heap.size+3]?=some (.cells #[.bool false] 4):=by
  rw [<- hW0,heap_alloc_old _ _ (by simp)]
  have:=heap_alloc_new (((w.alloc (Obj.cells #[.pointer (some ⟨hb,0,none⟩)] 139)).alloc (Obj.cells #[.int .i64 a,.int .i64 b] 151)).alloc (Obj.cells #[.int .u64 0,.int .u64 0,.int .u64 0] 197)) (Obj.cells #[.bool false] 4)
  simpa using this
 have k4:W0.heap[w.heap.size+4]?=some (.cells #[.int .u64 0,.int .u64 0,.int .u64 0] 197):=by
  rw [<- hW0]
  have:=heap_alloc_new ((((w.alloc (Obj.cells #[.pointer (some ⟨hb,0,none⟩)] 139)).alloc (Obj.cells #[.int .i64 a,.int .i64 b] 151)).alloc (Obj.cells #[.int .u64 0,.int .u64 0,.int .u64 0] 197)).alloc (Obj.cells #[.bool false] 4)) (Obj.cells #[.int .u64 0,.int .u64 0,.int .u64 0] 197)
  simpa using this
 have HWE:=q8 hW0
 clear h hx hy hP hI kg hTab hW0 hoff
 refine callsIn_of_wp_marks Tryz.func274 rfl trivial ?_ rfl
 simp only [Tryz.ntmps274,List.size_toArray,List.length_cons,List.length_nil,Nat.reduceAdd,Nat.reduceSub,Array.replicate_succ,Array.replicate_zero,List.push_toArray,List.append_toArray,List.nil_append,List.cons_append]
 gi_wp2
 rw [HWE.out]
 clear HWE
 refine ⟨trivial,(callsIn_wide.2 (HARG.out W0 hxW0)).mono ?_⟩
 rintro e w1 ⟨p,q,rfl,hp,hq,hx1,kp,kq⟩
 have j0:=(hx1.block _ (z8 k0) (fun f=>f)).trans k0
 have j2:=(hx1.block _ (z8 k2) (fun f=>f)).trans k2
 have j3:=(hx1.block _ (z8 k3) (fun f=>f)).trans k3
 have j4:=(hx1.block _ (z8 k4) (fun f=>f)).trans k4
 have hB1:Below w.heap.size w w1:=(hxW0.trans hx1).toBelow
 clear k0 k2 k3 k4 HARG
 gi_wp2
 refine wpIn_rangeFunc_ownF (F:=Fence.wide) (n:=5) rfl (by omega) (gf:=275) (lb:=#[.pointer (some ⟨p,0,none⟩),.pointer (some ⟨q,0,none⟩)]) rfl trivial (enters_of Tryz.func275 (by kernel_rfl) rfl)
  (zI6 HP.out kp kq 4 (by omega)) je9 (jf0 (z8 kp) (z8 kq)) (Below.refl _ _) (fun _=>rfl)
  (fun pre W=>(W.heap[p]?=some (.cells (zd0 x) 145)/\W.heap[q]?=some (.cells (zd0 y) 145)/\W.heap[w.heap.size]?=some (.cells #[.pointer (some ⟨hb,0,none⟩)] 139)/\W.heap[w.heap.size+2]?=some (.cells #[.int .u64 0,.int .u64 0,.int .u64 0] 197)/\W.heap[w.heap.size+3]?=some (.cells #[.bool false] 4)/\∃ mk:M3,W.heap[w.heap.size+4]?=some (.cells #[.int .u64 mk.a.toNat,.int .u64 mk.b.toNat,.int .u64 mk.c.toNat] 197)/\SmI X.t V H K pre mk)/\Below w.heap.size w W)
  (fun c pre W=>(c=.ret/\W.heap[w.heap.size+2]?=some (.cells #[.int .u64 0,.int .u64 0,.int .u64 0] 197)/\W.heap[w.heap.size+3]?=some (.cells #[.bool false] 4)/\∃ z∈pre,¬KE X.t z)/\Below w.heap.size w W)
  (OwnFrom.and (Own.from (fun s A B row hs hg hr=>by
   obtain ⟨hp1,hq1,h1,h2,h3,mk,h4,h5⟩:=hs
   exact ⟨Z7 hp1 hg hr,Z7 hq1 hg hr,Z7 h1 hg hr,Z7 h2 hg hr,Z7 h3 hg hr,mk,Z7 h4 hg hr,h5⟩) _) (ownFrom_below (Nat.le_refl _) (hB1.size)))
  (fun c=>OwnFrom.and (Own.from (fun s A B row hs hg hr=>by
   obtain ⟨h1,h2,h3,h4⟩:=hs
   exact ⟨h1,Z7 h2 hg hr,Z7 h3 hg hr,h4⟩) _) (ownFrom_below (Nat.le_refl _) (hB1.size)))
  ⟨⟨kp,kq,j0,j2,j3,M3.none,j4,⟨fun z hz=>by simp at hz,J7.none _,fun v hv hh z hz=>by simp at hz⟩⟩,hB1⟩
  (fun z => { tmps:=#[.pointer (some ⟨hb,0,none⟩),.agg #[.int .i64 a,.int .i64 b],.pointer (some ⟨w.heap.size,0,none⟩),.pointer (some ⟨w.heap.size+1,0,none⟩),.pointer (some ⟨w.heap.size+1+1,0,none⟩),.pointer (some ⟨w.heap.size+1+1+1,0,none⟩),.pointer (some ⟨w.heap.size+1+1+1+1,0,none⟩),.int .i64 z.1.1,.int .i64 z.1.2,undef,undef,.pointer (some ⟨hb,0,none⟩),.agg #[.int .i64 a,.int .i64 b],.func (.func 275) #[] #[.pointer (some ⟨p,0,none⟩),.pointer (some ⟨q,0,none⟩)],.int .i64 z.1.1,.int .i64 z.1.2,undef,undef,undef,undef,undef,undef,undef,undef,undef,undef,undef,undef,undef,undef,undef],defers:=[] }) ?assign ?body ?done ?stop
 case assign =>
  intro l z W K hK
  gi_wp2
  exact hK
 case body =>
  rintro l pre z W ⟨⟨ip,iq,i0,i2,i3,mk,i4,hS⟩,hB⟩ _
  have c0:=z6 i0 0
  have hxw:q9 (fun _=>False) w W:=q9.ofBelow hB
  have IP:=q8 ip
  have IQ:=q8 iq
  have I0:=q8 i0
  have I2:=q8 i2
  have I3:=q8 i3
  have I4:=q8 i4
  have HS:=q8 hS
  have HB:=q8 hB
  have HXW:=q8 hxw
  clear ip iq i0 i2 i3 i4 hS hB hxw j0 j2 j3 j4 kp kq hB1
  gi_wp2
  refine ⟨trivial,(CallsIn.inRound l (callsIn_wide.2 (HNOW.out W HXW.out))).mono ?_⟩
  rintro e W1 ⟨rfl,rfl⟩
  gi_wp2
  refine ⟨trivial,(CallsIn.inRound l (callsIn_wide.2 (HEQ.out W.drew z HXW.out.drew))).mono ?_⟩
  rintro e W2 ⟨hx2,⟨rfl,hno⟩ | ⟨rfl,hyes⟩⟩
  ·have hxx:q9 (fun _=>False) W W2:=((q9.refl (fun _=>False) W).drew).trans hx2
   have HXX:=q8 hxx
   have HNO:=q8 hno
   have r2:W2.heap[w.heap.size+1+1]?=some (.cells #[.int .u64 0,.int .u64 0,.int .u64 0] 197):=(hxx.block _ (z8 I2.out) (fun f=>f)).trans I2.out
   have r3:W2.heap[w.heap.size+1+1+1]?=some (.cells #[.bool false] 4):=(hxx.block _ (z8 I3.out) (fun f=>f)).trans I3.out
   have l2:=z8 r2
   have l3:=z8 r3
   have e0:=z6 r2 0
   have e1:=z6 r2 1
   have e2:=z6 r2 2
   have f0:=Q0 r2 0
   have f1:=Q0 r2 1
   have f2:=Q0 r2 2
   have e3:=z6 r3 0
   have f3:=Q0 r3 0
   have R2:=q8 r2
   have R3:=q8 r3
   clear hx2 hxx hno r2 r3
   gi_wp2
   have hBW2:Below w.heap.size w W2:=HB.out.trans (zc1 HXX.out HB.out.size)
   refine ⟨?_,⟨rfl,?_,?_,z,by simp,HNO.out⟩,?_⟩
   ·exact (KeepsOthers.of_ext HXX.out).trans (((((KeepsOthers.setCell _ _ _).trans (KeepsOthers.setCell _ _ _)).trans (KeepsOthers.setCell _ _ _)).trans (KeepsOthers.setCell _ _ _)).trans (KeepsOthers.alloc _ _))
   ·rw [heap_alloc_old _ _ (by simpa using l2)]
    exact (j8 _ _ (by show ¬w.heap.size+2=w.heap.size+1+1+1;omega)).trans (Y0 (Y0 (Y0 R2.out 0 _) 1 _) 2 _)
   ·rw [heap_alloc_old _ _ (by simpa using l3)]
    refine Y0 ((j8 _ _ (by show ¬w.heap.size+3=w.heap.size+1+1;omega)).trans ((j8 _ _ (by show ¬w.heap.size+3=w.heap.size+1+1;omega)).trans ((j8 _ _ (by show ¬w.heap.size+3=w.heap.size+1+1;omega)).trans R3.out))) 0 _
   ·exact ((((hBW2.setCell (p:=⟨w.heap.size+1+1,0,none⟩) (by show w.heap.size<=w.heap.size+1+1;omega) _).setCell (p:=⟨w.heap.size+1+1,1,none⟩) (by show w.heap.size<=w.heap.size+1+1;omega) _).setCell (p:=⟨w.heap.size+1+1,2,none⟩) (by show w.heap.size<=w.heap.size+1+1;omega) _).setCell (p:=⟨w.heap.size+1+1+1,0,none⟩) (by show w.heap.size<=w.heap.size+1+1+1;omega) _).alloc (by simp;exact hBW2.size) _
  ·have hxx:q9 (fun _=>False) W W2:=((q9.refl (fun _=>False) W).drew).trans hx2
   have HXX:=q8 hxx
   have HYES:=q8 hyes
   have r4:W2.heap[w.heap.size+1+1+1+1]?=some (.cells #[.int .u64 mk.a.toNat,.int .u64 mk.b.toNat,.int .u64 mk.c.toNat] 197):=(hxx.block _ (z8 I4.out) (fun f=>f)).trans I4.out
   have l4:=z8 r4
   have e0:=z6 r4 0
   have e1:=z6 r4 1
   have e2:=z6 r4 2
   have R4:=q8 r4
   simp only [M3.val,u64]
   clear hx2 hxx hyes r4
   gi_wp2
   refine ⟨trivial,(CallsIn.inRound l (callsIn_wide.2 (zg0 mk ((X.t.why z.1.1 z.1.2).or (X.t.why z.1.2 z.1.1)) _))).mono ?_⟩
   rintro e W3 ⟨rfl,hx3⟩
   have hxx3:q9 (fun _=>False) W W3:=HXX.out.trans (((q9.refl (fun _=>False) W2).alloc _).trans hx3)
   have r4:W3.heap[w.heap.size+1+1+1+1]?=some (.cells #[.int .u64 mk.a.toNat,.int .u64 mk.b.toNat,.int .u64 mk.c.toNat] 197):=(hxx3.block _ (z8 I4.out) (fun f=>f)).trans I4.out
   have e0:=z6 r4 0
   have e1:=z6 r4 1
   have e2:=z6 r4 2
   have f0:=Q0 r4 0
   have f1:=Q0 r4 1
   have f2:=Q0 r4 2
   have R4:=q8 r4
   have HX3:=q8 hxx3
   simp only [M3.val,u64]
   clear hx3 hxx3 r4
   gi_wp2
   have hBW3:Below w.heap.size w W3:=HB.out.trans (zc1 HX3.out HB.out.size)
   have hp4:¬p=w.heap.size+4:=by omega
   have hq4:¬q=w.heap.size+4:=by omega
   have keep:∀ k,k < W.heap.size->¬k=w.heap.size+4->(((W3.setCell ⟨w.heap.size+1+1+1+1,0,none⟩ (.int .u64 (mk.or ((X.t.why z.1.1 z.1.2).or (X.t.why z.1.2 z.1.1))).a.toNat)).setCell ⟨w.heap.size+1+1+1+1,1,none⟩ (.int .u64 (mk.or ((X.t.why z.1.1 z.1.2).or (X.t.why z.1.2 z.1.1))).b.toNat)).setCell ⟨w.heap.size+1+1+1+1,2,none⟩ (.int .u64 (mk.or ((X.t.why z.1.1 z.1.2).or (X.t.why z.1.2 z.1.1))).c.toNat)).heap[k]?=W.heap[k]?:=by
    intro k hk hne
    exact (j8 _ _ (by show ¬k=w.heap.size+1+1+1+1;omega)).trans ((j8 _ _ (by show ¬k=w.heap.size+1+1+1+1;omega)).trans ((j8 _ _ (by show ¬k=w.heap.size+1+1+1+1;omega)).trans (HX3.out.block k hk (fun f=>f))))
   refine ⟨(KeepsOthers.of_ext HX3.out).trans (((KeepsOthers.setCell _ _ _).trans (KeepsOthers.setCell _ _ _)).trans (KeepsOthers.setCell _ _ _)),⟨keep p (z8 IP.out) hp4,keep q (z8 IQ.out) hq4⟩,⟨(keep p (z8 IP.out) hp4).trans IP.out,(keep q (z8 IQ.out) hq4).trans IQ.out,(keep _ (z8 I0.out) (by omega)).trans I0.out,(keep _ (z8 I2.out) (by omega)).trans I2.out,(keep _ (z8 I3.out) (by omega)).trans I3.out,_,Y0 (Y0 (Y0 R4.out 0 _) 1 _) 2 _,HS.out.snoc HI.out (Nat.le_succ _) HYES.out⟩,?_⟩
   exact ((hBW3.setCell (p:=⟨w.heap.size+1+1+1+1,0,none⟩) (by show w.heap.size<=w.heap.size+1+1+1+1;omega) _).setCell (p:=⟨w.heap.size+1+1+1+1,1,none⟩) (by show w.heap.size<=w.heap.size+1+1+1+1;omega) _).setCell (p:=⟨w.heap.size+1+1+1+1,2,none⟩) (by show w.heap.size<=w.heap.size+1+1+1+1;omega) _
 case done =>
  rintro D ys W hD rfl ⟨⟨ip,iq,i0,i2,i3,mk,i4,hS⟩,hB⟩ hK
  have c0:W.cell? ⟨w.heap.size+1+1+1+1,0,none⟩=some (.int .u64 mk.a.toNat):=z6 i4 0
  have c1:W.cell? ⟨w.heap.size+1+1+1+1,1,none⟩=some (.int .u64 mk.b.toNat):=z6 i4 1
  have c2:W.cell? ⟨w.heap.size+1+1+1+1,2,none⟩=some (.int .u64 mk.c.toNat):=z6 i4 2
  have e0:W.cell? ⟨w.heap.size+1+1,0,none⟩=some (.int .u64 0):=z6 i2 0
  have e1:W.cell? ⟨w.heap.size+1+1,1,none⟩=some (.int .u64 0):=z6 i2 1
  have e2:W.cell? ⟨w.heap.size+1+1,2,none⟩=some (.int .u64 0):=z6 i2 2
  have f0:W.frozen? ⟨w.heap.size+1+1,0,none⟩=false:=Q0 i2 0
  have f1:W.frozen? ⟨w.heap.size+1+1,1,none⟩=false:=Q0 i2 1
  have f2:W.frozen? ⟨w.heap.size+1+1,2,none⟩=false:=Q0 i2 2
  have e3:W.cell? ⟨w.heap.size+1+1+1,0,none⟩=some (.bool false):=z6 i3 0
  have f3:W.frozen? ⟨w.heap.size+1+1+1,0,none⟩=false:=Q0 i3 0
  have hDw:w.heap.size<=D:=Nat.le_trans hB1.size hD
  obtain ⟨Wf,hWf⟩:∃ Wf,((((W.setCell ⟨w.heap.size+1+1,0,none⟩ (.int .u64 mk.a.toNat)).setCell ⟨w.heap.size+1+1,1,none⟩ (.int .u64 mk.b.toNat)).setCell ⟨w.heap.size+1+1,2,none⟩ (.int .u64 mk.c.toNat)).setCell ⟨w.heap.size+1+1+1,0,none⟩ (.bool true))=Wf:=⟨_,rfl⟩
  have hKf:Wf.heap[D]?=some (.deferred (some [])):=by
   rw [<- hWf]
   exact (KeepsOthers.setCell _ _ _).same D _ ((KeepsOthers.setCell _ _ _).same D _ ((KeepsOthers.setCell _ _ _).same D _ ((KeepsOthers.setCell _ _ _).same D _ hK rfl) rfl) rfl) rfl
  have b2:Wf.heap[w.heap.size+1+1]?=some (.cells #[.int .u64 mk.a.toNat,.int .u64 mk.b.toNat,.int .u64 mk.c.toNat] 197):=by
   rw [<- hWf]
   exact (j8 _ _ (by show ¬w.heap.size+1+1=w.heap.size+1+1+1;omega)).trans (Y0 (Y0 (Y0 i2 0 _) 1 _) 2 _)
  have b3:Wf.heap[w.heap.size+1+1+1]?=some (.cells #[.bool true] 4):=by
   rw [<- hWf]
   exact Y0 ((j8 _ _ (by show ¬w.heap.size+1+1+1=w.heap.size+1+1;omega)).trans ((j8 _ _ (by show ¬w.heap.size+1+1+1=w.heap.size+1+1;omega)).trans ((j8 _ _ (by show ¬w.heap.size+1+1+1=w.heap.size+1+1;omega)).trans i3))) 0 _
  have hBf:Below w.heap.size w Wf:=by
   rw [<- hWf]
   exact (((hB.setCell (p:=⟨w.heap.size+1+1,0,none⟩) (by show w.heap.size<=w.heap.size+1+1;omega) _).setCell (p:=⟨w.heap.size+1+1,1,none⟩) (by show w.heap.size<=w.heap.size+1+1;omega) _).setCell (p:=⟨w.heap.size+1+1,2,none⟩) (by show w.heap.size<=w.heap.size+1+1;omega) _).setCell (p:=⟨w.heap.size+1+1+1,0,none⟩) (by show w.heap.size<=w.heap.size+1+1+1;omega) _
  have HWF:=q8 hWf
  have g2:=Z7 b2 (grownBy_putObj' Wf D (.deferred none)) (fun r e=>by cases e;exact ⟨_,hKf,rfl⟩)
  have g3:=Z7 b3 (grownBy_putObj' Wf D (.deferred none)) (fun r e=>by cases e;exact ⟨_,hKf,rfl⟩)
  have z0:=z6 g2 0
  have z1:=z6 g2 1
  have z2:=z6 g2 2
  have z3:=z6 g3 0
  have G2:=q8 b2
  have G3:=q8 b3
  clear hWf ip iq i0 i2 i3 i4 b2 b3
  gi_wp2
  rw [HWF.out]
  refine ⟨by simp,.inl ⟨_,_,rfl,run_takeDeferred hKf,?_⟩⟩
  refine ⟨.tuple #[.agg #[.int .u64 mk.a.toNat,.int .u64 mk.b.toNat,.int .u64 mk.c.toNat],.bool true],?_,mk,true,rfl,hBf.trans (belowK_b (w:=w) (Nat.le_refl _) Wf D _ _ hDw hKf rfl rfl),fun _=>hS,fun e=>by simp at e⟩
  simp [results,Tryz.results274,go_sem,z0,z1,z2,z3]
 case stop =>
  rintro D c pre W hD ⟨k,hk,rfl⟩ ⟨⟨rfl,i2,i3,z,hz,hn⟩,hB⟩ hK
  have hDw:w.heap.size<=D:=Nat.le_trans hB1.size hD
  have g2:(W.putObj D (.deferred none)).heap[w.heap.size+1+1]?=some (.cells #[.int .u64 0,.int .u64 0,.int .u64 0] 197):=Z7 i2 (grownBy_putObj' W D (.deferred none)) (fun r e=>by cases e;exact ⟨_,hK,rfl⟩)
  have g3:(W.putObj D (.deferred none)).heap[w.heap.size+1+1+1]?=some (.cells #[.bool false] 4):=Z7 i3 (grownBy_putObj' W D (.deferred none)) (fun r e=>by cases e;exact ⟨_,hK,rfl⟩)
  have z0:=z6 g2 0
  have z1:=z6 g2 1
  have z2:=z6 g2 2
  have z3:=z6 g3 0
  gi_wp2
  refine ⟨by simp,.inl ⟨_,_,rfl,run_takeDeferred hK,?_⟩⟩
  refine ⟨.tuple #[.agg #[.int .u64 0,.int .u64 0,.int .u64 0],.bool false],?_,M3.none,false,rfl,hB.trans (belowK_b (w:=w) (Nat.le_refl _) W D _ _ hDw hK rfl rfl),fun e=>by simp at e,fun _=>⟨z,List.mem_of_mem_take hz,hn⟩⟩
  simp [results,Tryz.results274,go_sem,z0,z1,z2,z3]
theorem qK1 (h:ThR w hb g c TK AK tw As (TT++[X])) {a b:Nat} {x y:Z0} (hx:TK[a]?=some x) (hy:TK[b]?=some y) (hT:TK.length<=12) (hl:TT.length<=500) {ar:Nat} {zs:List (PN2 TK.length)} (hP:Prs x y ar zs) {far:Int} {V:(Nat->Int)->Prop} {H:Nat->(Nat->Int)->Prop} {K:Nat} (hI:V4 (TK.length+1) far V H K X.t) :
  Calls Tryz.prog 274 #[.pointer (some ⟨hb,0,none⟩),.agg #[.int .i64 a,.int .i64 b]] w fun e w'=>∃ (mk:M3) (same:Bool),e=.returned (.tuple #[.agg #[.int .u64 mk.a.toNat,.int .u64 mk.b.toNat,.int .u64 mk.c.toNat],.bool same])/\q9 (fun _=>False) w w'/\(same=true->SmI X.t V H K zs mk)/\(same=false->∃ z∈zs,¬KE X.t z) :=
 (callsIn_wide.1 (qV6 h hx hy hT hl hP hI)).mono (fun _ _ ⟨mk,same,h1,h2,h3⟩=>⟨mk,same,h1,q9.ofBelow h2,h3⟩)
end
end Go.Proofs.YtegbdaffhpiacaaGreatDoor

namespace Go.Proofs.YtegbdaffhpiacaaGreatDoor
open Go.RowKit Ar
structure qb8 (F:Fx) (TK:List Z0) (tw:List (Nat × Nat)):Prop where
 fn:F.n=TK.length
 ftw:F.tw=tw
 prs:∀ p∈tw,∃ (x y:Z0) (ar:Nat) (zs:List (PN2 TK.length)),TK[p.1]?=some x/\TK[p.2]?=some y/\Prs x y ar zs/\F.prs p=zs.map (·.1)
theorem qb9 {tw:List (Nat × Nat)} {k:Nat} {p:Nat × Nat} (h:tw[k]?=some p):(l9 tw)[k * 2]?=some (.int .i64 p.1)/\(l9 tw)[k * 2+1]?=some (.int .i64 p.2):=by
 have hk:=(List.getElem?_eq_some_iff.1 h).1
 have e:tw=tw.take k++p :: tw.drop (k+1):=by
  have e1:=(List.take_append_drop k tw).symm
  rw [List.drop_eq_getElem_cons hk,(List.getElem?_eq_some_iff.1 h).2] at e1
  exact e1
 have hl:∀ l:List (Nat × Nat),(l9 l).length=l.length * 2:=by
  intro l
  induction l with
  | nil=>rfl
  | cons a b ih=>simp only [l9,List.flatMap_cons,List.length_append] at ih ⊢;simp at ih ⊢;omega
 have e2:l9 tw=l9 (tw.take k)++([.int .i64 p.1,.int .i64 p.2]++l9 (tw.drop (k+1))):=by
  conv=>lhs;rw [e]
  simp [l9]
 have hlk:(l9 (tw.take k)).length=k * 2:=by rw [hl,List.length_take];congr 1;omega
 rw [e2]
 refine ⟨?_,?_⟩
 ·rw [List.getElem?_append_right (by omega),hlk,Nat.sub_self];rfl
 ·rw [List.getElem?_append_right (by omega),hlk,Nat.add_sub_cancel_left];rfl
section
variable {w:World} {hb g:Nat} {c:ThV} {TK:List Z0} {AK:List PA} {tw:List (Nat × Nat)} {As:List (PA × Bool)} {TT:List Y5} {X:Y5} {F:Fx}
set_option maxRecDepth 100000 in
set_option maxHeartbeats 1000000 in
theorem ql7 (h:ThR w hb g c TK AK tw As (TT++[X])) (hF:qb8 F TK tw) (hT:TK.length<=12) (hl:TT.length<=500) (htw:tw.length<=1000) (hI:V4 (F.n+1) F.far F.V (HA (Y3 As)) As.length X.t) (hfar:F.far<=1000000) :
  Calls Tryz.prog 269 #[.pointer (some ⟨hb,0,none⟩)] w (ThC w hb g c TK AK tw As TT X F (fun Y=>Y.news=false->∀ p∈tw,zf3 F Y.t p)):=by
 have kb:=h.blk
 obtain ⟨wa,wc,hwv⟩:=j9 h.tw
 have hbl:=z8 kb
 rw [hwv] at kb
 have c2:=z6 kb 2
 have H:=q8 h
 have HI:=q8 hI
 have HF:=q8 hF
 have hFn:=hF.fn
 clear h kb hI hF
 go_enter Tryz.func269,Tryz.ntmps269
 go_wp2_with fail
 go_loopw [12] (fun i wr=>∃ j:Nat,j<=tw.length/\i=.int .i64 j/\PtW w hb g c TK AK tw As TT X F (fun Y=>Y.news=false->∀ p∈tw.take j,zf3 F Y.t p) wr) (fun i _=>tw.length - (intOf i).toNat)
 case atStart=>exact ⟨0,Nat.zero_le _,rfl,X,H.out,q9.refl _ _,Ar.TPost.refl HI.out,fun _ x hx=>by simp at hx⟩
 case round =>
  obtain ⟨j,hj,rfl,Y,hR,hx,hP,hQ⟩:=hrel
  have HR:=q8 hR
  have HX:=q8 hx
  have HP:=q8 hP
  have HQ:=q8 hQ
  by_cases hlt:j < tw.length
  ·obtain ⟨⟨a,b⟩,hpj⟩:∃ p,tw[j]?=some p:=⟨_,List.getElem?_eq_getElem hlt⟩
   obtain ⟨gw,rfl,hgwl⟩:∃ gw,wa=some ⟨gw,0,none⟩/\gw < wr.heap.size:=by
    rcases hR.tw.2 with ⟨e,e0⟩ | ⟨g',cap,cur,hv,_,hh,_⟩
    ·omega
    ·rw [hwv] at hv;simp at hv;exact ⟨g',hv.1,z8 hh⟩
   have ho:=hR.tw
   rw [hwv] at ho
   obtain ⟨q0,q1⟩:=qb9 hpj
   have x0:=(ho.cellAt (j * 2) (by omega)).trans q0
   have x1:=(ho.cellAt (j * 2+1) (by omega)).trans q1
   simp only at x0 x1
   have hmem:=List.mem_of_getElem? hpj
   obtain ⟨x,y,ar,zs,hxa,hyb,hPrs,hprs⟩:=HF.out.prs _ hmem
   simp only at hxa hyb
   have ha:=(List.getElem?_eq_some_iff.1 hxa).1
   have hb':=(List.getElem?_eq_some_iff.1 hyb).1
   have hIY:=hP.inv rfl
   obtain ⟨V,hV⟩:∃ V,wr.alloc (.cells #[.int .i64 a,.int .i64 b] 151)=V:=⟨_,rfl⟩
   have hxV:q9 (fun _=>False) wr V:=by rw [<- hV];exact (q9.refl _ wr).alloc _
   have kA:V.heap[wr.heap.size]?=some (.cells #[.int .i64 a,.int .i64 b] 151):=by rw [<- hV];exact heap_alloc_new wr _
   have HSM:=q8 (qK1 (hR.ext hxV (fun _ _ f=>f)) hxa hyb hT hl hPrs (by rw [<- hFn];exact hIY))
   have HNOW:Hid (∀ W,q9 (fun _=>False) wr W->Calls Tryz.prog 259 #[.pointer (some ⟨hb,0,none⟩)] W fun e w'=>e=.returned (.pointer (some ⟨g,TT.length * 681,none⟩))/\q9 (fun _=>False) wr w'/\w'.heap=W.heap):=by
    intro W hxw
    have:=zf5 (HR.out.ext hxw (fun _ _ f=>f)) (by simp) (by simp;omega)
    rw [List.length_append,List.length_singleton,Nat.add_sub_cancel] at this
    exact this.mono (fun e w' h=>⟨h.1,by rw [h.2];exact hxw.drew,by rw [h.2];rfl⟩)
   obtain ⟨C,kg,hTab,hTurn⟩:=HR.out.tab
   have HEQ:Hid (∀ (mk:M3),SmI Y.t F.V (HA (Y3 As)) As.length zs mk->∀ W,q9 (fun _=>False) wr W->Calls Tryz.prog 267 #[.pointer (some ⟨g,TT.length * 681,none⟩),.int .i64 a,.int .i64 b,.agg #[.int .u64 mk.a.toNat,.int .u64 mk.b.toNat,.int .u64 mk.c.toNat]] W fun e wp=>∃ Z ok,e=.returned (.bool ok)/\ThR wp hb g c TK AK tw As (TT++[Z])/\q9 (fun k=>k=g) w wp/\Ar.TPost (TK.length+1) F.far F.V (HA (Y3 As)) As.length Y Z ok/\(ok=true->Z.t.by_ a b<=0/\Z.t.by_ b a<=0)):=by
    intro mk hsm W hxw
    refine (zI3 ((hxw.block _ (z8 kg) (fun f=>f)).trans kg) hTab (by omega) (by omega) (by omega) (X:=Y) (far:=F.far) (V:=F.V) (H:=HA (Y3 As)) (K:=As.length) (mw:=mk) ?_ hfar hsm.bl ?_).mono ?_
    ·rw [<- hFn];exact hIY
    ·intro v hv hh
     have h1:=hv.fn (a,b) (by rw [HF.out.ftw];exact hmem) (fun q hq=>by
      rw [hprs] at hq
      obtain ⟨z,hz,rfl⟩:=List.mem_map.1 hq
      exact hsm.eq v hv hh z hz)
     exact h1
    ·rintro e wp ⟨Z,ok,he,hTP,hPP,hRR⟩
     exact ⟨Z,ok,he,hTurn wp Z (U6.trans (hxw.mono (fun _ _ f=>f.elim)) (X7.refl _ _) hTP),HX.out.trans ((hxw.mono (fun _ _ f=>f.elim)).trans hTP.1),hPP,hRR⟩
   have HVE:=q8 hV
   have HXV:=q8 hxV
   have KA:=q8 kA
   have HPJ:=q8 hpj
   have HPRS:=q8 hprs
   obtain ⟨m,hm⟩:∃ m,TT.length * 681=m:=⟨_,rfl⟩
   rw [hm] at HNOW HEQ
   clear hR hx hP hQ hpj ho q0 q1 hmem hxa hyb hPrs hprs hIY hV hxV kA kg hTab hTurn hm
   go_wp2_with fail
   rw [HVE.out]
   clear HVE
   refine HSM.out.mono ?_
   rintro e w2 ⟨mk,same,rfl,hx2,hs1,hs2⟩
   have HS1:=q8 hs1
   have HS2:=q8 hs2
   have hxr2:q9 (fun _=>False) wr w2:=HXV.out.trans hx2
   have kA2:=(hx2.block _ (z8 KA.out) (fun f=>f)).trans KA.out
   clear hx2 hs1 hs2 HSM x0 x1
   cases same with
   | false =>
    go_wp2_with fail
    go_region
    go_wp2_with fail
    go_roundw
    case measure=>simp [intOf];omega
    case rel =>
     refine ⟨j+1,by omega,by go_num,Y,HR.out.ext ((hxr2.alloc _).drew) (fun _ _ f=>f),HX.out.trans (((hxr2.alloc _).drew).mono (fun _ _ f=>f.elim)),HP.out,fun hn y hy=>?_⟩
     rw [List.take_add_one,HPJ.out] at hy
     rcases List.mem_append.1 hy with e | e
     ·exact HQ.out hn y e
     ·simp at e
      subst e
      intro hall
      obtain ⟨z,hz,hne⟩:=HS2.out (by simp)
      exact absurd (hall z.1 (by rw [HPRS.out];exact List.mem_map_of_mem hz)) hne
   | true =>
    obtain ⟨V2,hV2⟩:∃ V2,w2.alloc (.cells #[.int .u64 mk.a.toNat,.int .u64 mk.b.toNat,.int .u64 mk.c.toNat] 197)=V2:=⟨_,rfl⟩
    have hxV2:q9 (fun _=>False) wr V2.drew:=by rw [<- hV2];exact (hxr2.alloc _).drew
    have kM:V2.heap[w2.heap.size]?=some (.cells #[.int .u64 mk.a.toNat,.int .u64 mk.b.toNat,.int .u64 mk.c.toNat] 197):=by rw [<- hV2];exact heap_alloc_new w2 _
    have kT:V2.heap[wr.heap.size]?=some (.cells #[.int .i64 a,.int .i64 b] 151):=by rw [<- hV2,heap_alloc_old _ _ (z8 kA2)];exact kA2
    have u0:=z6 kT 0
    have u1:=z6 kT 1
    have m0:=z6 kM 0
    have m1:=z6 kM 1
    have m2:=z6 kM 2
    have KM:=q8 kM
    have KT:=q8 kT
    have HVE2:=q8 hV2
    have HEQ2:=q8 (HEQ.out mk (HS1.out rfl))
    clear kM kT hV2 kA2 HEQ
    go_wp2_with fail
    rw [HVE2.out]
    clear HVE2
    go_region_law (go_simp;go_wp2_with (first
     | (go_at_call 259;refine (HNOW.out _ (by assumption)).mono ?_;rintro e wa ⟨rfl,hxa,hha⟩;have ka:wa.heap[w2.heap.size]?=some (.cells #[.int .u64 mk.a.toNat,.int .u64 mk.b.toNat,.int .u64 mk.c.toNat] 197):=(by rw [hha];exact KM.out);have kt:wa.heap[wr.heap.size]?=some (.cells #[.int .i64 a,.int .i64 b] 151):=(by rw [hha];exact KT.out);have va0:=z6 ka 0;have va1:=z6 ka 1;have va2:=z6 ka 2;have vt0:=z6 kt 0;have vt1:=z6 kt 1;clear hha ka kt)
     | (go_at_call 267;refine (HEQ2.out _ (by assumption)).mono ?_;rintro e wp ⟨Z,ok,rfl,hfin⟩;have HFIN:=q8 hfin;clear hfin)
     | fail))
    all_goals
     obtain ⟨f1,f2,f3,f4⟩:=HFIN.out
     rw [<- hFn] at f3
     have F1:=q8 f1
     have F2:=q8 f2
     have F3:=q8 (HP.out.trans f3)
     have F5:=q8 f3
     have F4:=q8 f4
     clear f1 f2 f3 f4 HFIN
     cases ok with
     | false =>
      go_wp2_with fail
      go_ret
      exact ⟨Z,false,rfl,F1.out,F2.out,F3.out,fun e=>by simp at e⟩
     | true =>
      go_wp2_with fail
      go_roundw
      case measure=>simp [intOf];omega
      case rel =>
       refine ⟨j+1,by omega,by go_num,Z,F1.out,F2.out,F3.out,fun hn y hy=>?_⟩
       rw [List.take_add_one,HPJ.out] at hy
       rcases List.mem_append.1 hy with e | e
       ·obtain ⟨n1,n2⟩:=F5.out.news hn
        rw [n2]
        exact HQ.out n1 y e
       ·simp at e
        subst e
        intro _
        exact F4.out rfl
  ·have hjl:j=tw.length:=by omega
   subst hjl
   clear hR hx hP hQ
   go_wp2_with fail
   go_ret
   exact ⟨Y,true,rfl,HR.out,HX.out,HP.out,fun _ hn x hx=>HQ.out hn x (by rw [List.take_length];exact hx)⟩
end
end Go.Proofs.YtegbdaffhpiacaaGreatDoor

namespace Go.Proofs.YtegbdaffhpiacaaGreatDoor
open Go.RowKit Ar
attribute [local go_sem] Oper.semAt_some
theorem O8 {w:World} {o:Obj} {k:Nat} (h:k=w.heap.size):(w.alloc o).heap[k]?=some o:=by subst h;exact heap_alloc_new w o
def GE (T:Tb) {m:Nat} (z:PN2 m):Prop:=T.by_ z.1.1 m=T.by_ z.1.2 m
structure ChI {m:Nat} (T:Tb) (pre:List (PN2 m)) (i j:Nat) (s:Bool):Prop where
 ge:∀ z∈pre,GE T z
 yes:s=true->∃ z∈pre,z.1=(i,j)/\¬KE T z
 no:s=false->∀ z∈pre,KE T z
theorem ChI.nil {m:Nat} (T:Tb):ChI (m:=m) T [] 0 0 false:=⟨fun _ h=>by simp at h,fun h=>by simp at h,fun _ _ h=>by simp at h⟩
theorem zw8 {α:Type} {l:List α} {x : α} {P : α->Prop} (h:∀ z∈l,P z) (hx:P x):∀ z∈l++[x],P z:=fun z hz=>by
 rcases List.mem_append.1 hz with e | e
 ·exact h z e
 ·simp at e;subst e;exact hx
theorem ChI.kept {m:Nat} {T:Tb} {pre:List (PN2 m)} {i j:Nat} (h:ChI T pre i j true) {z:PN2 m} (hz:GE T z):ChI T (pre++[z]) i j true :=
 ⟨zw8 h.ge hz,fun _=>by obtain ⟨u,h1,h2⟩:=h.yes rfl;exact ⟨u,List.mem_append_left _ h1,h2⟩,fun e=>by simp at e⟩
theorem ChI.eq {m:Nat} {T:Tb} {pre:List (PN2 m)} {i j:Nat} (h:ChI T pre i j false) {z:PN2 m} (hz:GE T z) (hk:KE T z):ChI T (pre++[z]) i j false :=
 ⟨zw8 h.ge hz,fun e=>by simp at e,fun _=>zw8 (h.no rfl) hk⟩
theorem ChI.new {m:Nat} {T:Tb} {pre:List (PN2 m)} {i j:Nat} (h:ChI T pre i j false) {z:PN2 m} (hz:GE T z) (hk:¬KE T z):ChI T (pre++[z]) z.1.1 z.1.2 true :=
 ⟨zw8 h.ge hz,fun _=>⟨z,by simp,rfl,hk⟩,fun e=>by simp at e⟩
section
variable {w:World} {hb g:Nat} {c:ThV} {TK:List Z0} {AK:List PA} {tw:List (Nat × Nat)} {As:List (PA × Bool)} {TT:List Y5} {X:Y5} {F:Fx}
set_option maxRecDepth 100000 in
set_option maxHeartbeats 2000000 in
theorem qA2 (h:ThR w hb g c TK AK tw As (TT++[X])) {a b:Nat} {x y:Z0} (hx:TK[a]?=some x) (hy:TK[b]?=some y) (hT:TK.length<=12) (hl:TT.length<=500) {ar:Nat} {zs:List (PN2 TK.length)} (hP:Prs x y ar zs) :
  CallsIn Fence.wide 5 Tryz.prog 265 #[.pointer (some ⟨hb,0,none⟩),.agg #[.int .i64 a,.int .i64 b]] w fun e w'=>∃ (i j:Nat) (s:Bool),e=.returned (.tuple #[.int .i64 i,.int .i64 j,.bool s])/\Below w.heap.size w w'/\(s=true->∃ z∈zs,z.1=(i,j)/\GE X.t z/\¬KE X.t z)/\(s=false->(∃ z∈zs,¬GE X.t z)\/∀ z∈zs,KE X.t z):=by
 have HH:=q8 h
 have HP:=q8 hP
 have HARG:Hid (∀ W,q9 (fun _=>False) w W->Calls Tryz.prog 271 #[.pointer (some ⟨hb,0,none⟩),.agg #[.int .i64 a,.int .i64 b]] W fun e w'=>∃ p q,e=.returned (.func (.func 275) #[] #[.pointer (some ⟨p,0,none⟩),.pointer (some ⟨q,0,none⟩)])/\W.heap.size<=p/\W.heap.size<=q/\q9 (fun _=>False) W w'/\w'.heap[p]?=some (.cells (zd0 x) 145)/\w'.heap[q]?=some (.cells (zd0 y) 145)) :=
  fun W hxw=>qb7 (h.ext hxw (fun _ _ f=>f)) hx hy
 have HNOW:Hid (∀ W,q9 (fun _=>False) w W->Calls Tryz.prog 259 #[.pointer (some ⟨hb,0,none⟩)] W fun e w'=>e=.returned (.pointer (some ⟨g,TT.length * 681,none⟩))/\w' = W.drew):=by
  intro W hxw
  have:=zf5 (h.ext hxw (fun _ _ f=>f)) (by simp) (by simp;omega)
  rw [List.length_append,List.length_singleton,Nat.add_sub_cancel] at this
  exact this
 have HGR:Hid (∀ (i:Nat) (W:World),i < TK.length->q9 (fun _=>False) w W->W.heap[w.heap.size]?=some (.cells #[.pointer (some ⟨hb,0,none⟩)] 139)->Calls Tryz.prog 262 #[.pointer (some ⟨hb,0,none⟩),.int .i64 i] W fun e w'=>e=.returned (.int .i64 (X.t.by_ i TK.length))/\q9 (fun _=>False) w w'/\w'.heap[w.heap.size]?=some (.cells #[.pointer (some ⟨hb,0,none⟩)] 139)/\q9 (fun _=>False) W w') :=
  fun i W hi hxw hk=>(zi0 (h.ext hxw (fun _ _ f=>f)) hT hl (Nat.le_of_lt hi)).mono (fun _ _ h=>⟨h.1,hxw.trans h.2,(h.2.block _ (z8 hk) (fun f=>f)).trans hk,h.2⟩)
 obtain ⟨C,kg,hTab,_⟩:=h.tab
 have HEQ:Hid (∀ (W:World) (z:PN2 TK.length),q9 (fun _=>False) w W->Calls Tryz.prog 272 #[.pointer (some ⟨g,TT.length * 681,none⟩),.int .i64 z.1.1,.int .i64 z.1.2] W fun e w'=>q9 (fun _=>False) W w'/\∃ (mk:M3) (same:Bool),e=.returned (.tuple #[.agg #[.int .u64 mk.a.toNat,.int .u64 mk.b.toNat,.int .u64 mk.c.toNat],.bool same])/\(same=true↔KE X.t z)) :=
  fun W z hxw=>(zP4 ((hxw.block _ (z8 kg) (fun f=>f)).trans kg) hTab (by have:=z.2.1;omega) (by have:=z.2.2;omega)).mono (fun e w' h=>⟨h.1,by
   rcases h.2 with ⟨h1,h2⟩ | ⟨h1,h2⟩
   ·exact ⟨M3.none,false,h1,by simp;exact h2⟩
   ·exact ⟨_,true,h1,by simp;exact h2⟩⟩)
 obtain ⟨off,hoff⟩:∃ off,TT.length * 681=off:=⟨_,rfl⟩
 rw [hoff] at HNOW HEQ
 obtain ⟨W0,hW0⟩:∃ W0,((((((((w.alloc (Obj.cells #[.pointer (some ⟨hb,0,none⟩)] 139)).alloc (Obj.cells #[.int .i64 a,.int .i64 b] 151)).alloc (Obj.cells #[.int .i64 0] 3)).alloc (Obj.cells #[.int .i64 0] 3)).alloc (Obj.cells #[.bool false] 4)).alloc (Obj.cells #[.int .i64 0] 3)).alloc (Obj.cells #[.int .i64 0] 3)).alloc (Obj.cells #[.bool false] 4))=W0:=⟨_,rfl⟩
 have hxW0:q9 (fun _=>False) w W0:=by rw [<- hW0];exact ((((((((q9.refl _ w).alloc _).alloc _).alloc _).alloc _).alloc _).alloc _).alloc _).alloc _
 have hsz0:W0.heap.size=w.heap.size+8:=by rw [<- hW0];simp
 have k0:W0.heap[w.heap.size]?=some (.cells #[.pointer (some ⟨hb,0,none⟩)] 139):=by
  rw [<- hW0,heap_alloc_old _ _ (by simp;omega),heap_alloc_old _ _ (by simp;omega),heap_alloc_old _ _ (by simp;omega),heap_alloc_old _ _ (by simp;omega),heap_alloc_old _ _ (by simp;omega),heap_alloc_old _ _ (by simp;omega),heap_alloc_old _ _ (by simp)]
  exact O8 (by simp)
 have k2:W0.heap[w.heap.size+2]?=some (.cells #[.int .i64 0] 3):=by
  rw [<- hW0,heap_alloc_old _ _ (by simp),heap_alloc_old _ _ (by simp),heap_alloc_old _ _ (by simp),heap_alloc_old _ _ (by simp),heap_alloc_old _ _ (by simp)]
  exact O8 (by simp)
 have k3:W0.heap[w.heap.size+3]?=some (.cells #[.int .i64 0] 3):=by
  rw [<- hW0,heap_alloc_old _ _ (by simp),heap_alloc_old _ _ (by simp),heap_alloc_old _ _ (by simp),heap_alloc_old _ _ (by simp)]
  exact O8 (by simp)
 have k4:W0.heap[w.heap.size+4]?=some (.cells #[.bool false] 4):=by
  rw [<- hW0,heap_alloc_old _ _ (by simp),heap_alloc_old _ _ (by simp),heap_alloc_old _ _ (by simp)]
  exact O8 (by simp)
 have k5:W0.heap[w.heap.size+5]?=some (.cells #[.int .i64 0] 3):=by
  rw [<- hW0,heap_alloc_old _ _ (by simp),heap_alloc_old _ _ (by simp)]
  exact O8 (by simp)
 have k6:W0.heap[w.heap.size+6]?=some (.cells #[.int .i64 0] 3):=by
  rw [<- hW0,heap_alloc_old _ _ (by simp)]
  exact O8 (by simp)
 have k7:W0.heap[w.heap.size+7]?=some (.cells #[.bool false] 4):=by
  rw [<- hW0]
  exact O8 (by simp)
 have HWE:=q8 hW0
 clear h hx hy hP kg hTab hW0 hoff
 refine callsIn_of_wp_marks Tryz.func265 rfl trivial ?_ rfl
 simp only [Tryz.ntmps265,List.size_toArray,List.length_cons,List.length_nil,Nat.reduceAdd,Nat.reduceSub,Array.replicate_succ,Array.replicate_zero,List.push_toArray,List.append_toArray,List.nil_append,List.cons_append]
 gi_wp2
 rw [HWE.out]
 clear HWE
 refine ⟨trivial,(callsIn_wide.2 (HARG.out W0 hxW0)).mono ?_⟩
 rintro e w1 ⟨p,q,rfl,hp,hq,hx1,kp,kq⟩
 have j0:=(hx1.block _ (z8 k0) (fun f=>f)).trans k0
 have j2:=(hx1.block _ (z8 k2) (fun f=>f)).trans k2
 have j3:=(hx1.block _ (z8 k3) (fun f=>f)).trans k3
 have j4:=(hx1.block _ (z8 k4) (fun f=>f)).trans k4
 have j5:=(hx1.block _ (z8 k5) (fun f=>f)).trans k5
 have j6:=(hx1.block _ (z8 k6) (fun f=>f)).trans k6
 have j7:=(hx1.block _ (z8 k7) (fun f=>f)).trans k7
 have hB1:Below w.heap.size w w1:=(hxW0.trans hx1).toBelow
 clear k0 k2 k3 k4 k5 k6 k7 HARG
 gi_wp2
 refine wpIn_rangeFunc_ownF (F:=Fence.wide) (n:=5) rfl (by omega) (gf:=275) (lb:=#[.pointer (some ⟨p,0,none⟩),.pointer (some ⟨q,0,none⟩)]) rfl trivial (enters_of Tryz.func275 (by kernel_rfl) rfl)
  (zI6 HP.out kp kq 4 (by omega)) je9 (jf0 (z8 kp) (z8 kq)) (Below.refl _ _) (fun _=>rfl)
  (fun pre W=>(W.heap[p]?=some (.cells (zd0 x) 145)/\W.heap[q]?=some (.cells (zd0 y) 145)/\W.heap[w.heap.size]?=some (.cells #[.pointer (some ⟨hb,0,none⟩)] 139)/\W.heap[w.heap.size+2]?=some (.cells #[.int .i64 0] 3)/\W.heap[w.heap.size+3]?=some (.cells #[.int .i64 0] 3)/\W.heap[w.heap.size+4]?=some (.cells #[.bool false] 4)/\∃ (i j:Nat) (s:Bool),W.heap[w.heap.size+5]?=some (.cells #[.int .i64 i] 3)/\W.heap[w.heap.size+6]?=some (.cells #[.int .i64 j] 3)/\W.heap[w.heap.size+7]?=some (.cells #[.bool s] 4)/\ChI X.t pre i j s)/\Below w.heap.size w W)
  (fun c pre W=>(c=.ret/\W.heap[w.heap.size+2]?=some (.cells #[.int .i64 0] 3)/\W.heap[w.heap.size+3]?=some (.cells #[.int .i64 0] 3)/\W.heap[w.heap.size+4]?=some (.cells #[.bool false] 4)/\∃ z∈pre,¬GE X.t z)/\Below w.heap.size w W)
  (OwnFrom.and (Own.from (fun s A B row hs hg hr=>by
   obtain ⟨hp1,hq1,h0,h2,h3,h4,i,j,s,h5,h6,h7,h8⟩:=hs
   exact ⟨Z7 hp1 hg hr,Z7 hq1 hg hr,Z7 h0 hg hr,Z7 h2 hg hr,Z7 h3 hg hr,Z7 h4 hg hr,i,j,s,Z7 h5 hg hr,Z7 h6 hg hr,Z7 h7 hg hr,h8⟩) _) (ownFrom_below (Nat.le_refl _) (hB1.size)))
  (fun c=>OwnFrom.and (Own.from (fun s A B row hs hg hr=>by
   obtain ⟨h1,h2,h3,h4,h5⟩:=hs
   exact ⟨h1,Z7 h2 hg hr,Z7 h3 hg hr,Z7 h4 hg hr,h5⟩) _) (ownFrom_below (Nat.le_refl _) (hB1.size)))
  ⟨⟨kp,kq,j0,j2,j3,j4,0,0,false,j5,j6,j7,ChI.nil _⟩,hB1⟩
  (fun z => { tmps:=#[.pointer (some ⟨hb,0,none⟩),.agg #[.int .i64 a,.int .i64 b],.pointer (some ⟨w.heap.size,0,none⟩),.pointer (some ⟨w.heap.size+1,0,none⟩),.pointer (some ⟨w.heap.size+1+1,0,none⟩),.pointer (some ⟨w.heap.size+1+1+1,0,none⟩),.pointer (some ⟨w.heap.size+1+1+1+1,0,none⟩),.pointer (some ⟨w.heap.size+1+1+1+1+1,0,none⟩),.pointer (some ⟨w.heap.size+1+1+1+1+1+1,0,none⟩),.pointer (some ⟨w.heap.size+1+1+1+1+1+1+1,0,none⟩),.int .i64 z.1.1,.int .i64 z.1.2,undef,undef,.pointer (some ⟨hb,0,none⟩),.agg #[.int .i64 a,.int .i64 b],.func (.func 275) #[] #[.pointer (some ⟨p,0,none⟩),.pointer (some ⟨q,0,none⟩)],.int .i64 z.1.1,.int .i64 z.1.2,undef,undef,undef,undef,undef,undef,undef,undef,undef,undef,undef,undef,undef,undef,undef,undef,undef,undef,undef,undef,undef,undef,undef,undef,undef,undef],defers:=[] }) ?assign ?body ?done ?stop
 case assign =>
  intro l z W K hK
  gi_wp2
  exact hK
 case body =>
  rintro l pre z W ⟨⟨ip,iq,i0,i2,i3,i4,i,j,s,i5,i6,i7,hS⟩,hB⟩ _
  have c0:=z6 i0 0
  have hxw:q9 (fun _=>False) w W:=q9.ofBelow hB
  have IP:=q8 ip
  have IQ:=q8 iq
  have I0:=q8 i0
  have I2:=q8 i2
  have I3:=q8 i3
  have I4:=q8 i4
  have I5:=q8 i5
  have I6:=q8 i6
  have I7:=q8 i7
  have HS:=q8 hS
  have HB:=q8 hB
  have HXW:=q8 hxw
  clear ip iq i0 i2 i3 i4 i5 i6 i7 hS hB hxw j0 j2 j3 j4 j5 j6 j7 kp kq hB1
  have id0:W.drew.heap[w.heap.size]?=some (.cells #[.pointer (some ⟨hb,0,none⟩)] 139):=I0.out
  have ixd:q9 (fun _=>False) w W.drew:=HXW.out.drew
  have hz1:=z.2.1
  have hz2:=z.2.2
  gi_wp2
  rename_i K aK
  suffices hK:∀ W2,q9 (fun _=>False) W W2->K { tmps:=#[.pointer (some ⟨hb,0,none⟩),.agg #[.int .i64 a,.int .i64 b],.pointer (some ⟨w.heap.size,0,none⟩),.pointer (some ⟨w.heap.size+1,0,none⟩),.pointer (some ⟨w.heap.size+1+1,0,none⟩),.pointer (some ⟨w.heap.size+1+1+1,0,none⟩),.pointer (some ⟨w.heap.size+1+1+1+1,0,none⟩),.pointer (some ⟨w.heap.size+1+1+1+1+1,0,none⟩),.pointer (some ⟨w.heap.size+1+1+1+1+1+1,0,none⟩),.pointer (some ⟨w.heap.size+1+1+1+1+1+1+1,0,none⟩),.int .i64 z.1.1,.int .i64 z.1.2,undef,undef,.pointer (some ⟨hb,0,none⟩),.agg #[.int .i64 a,.int .i64 b],.func (.func 275) #[] #[.pointer (some ⟨p,0,none⟩),.pointer (some ⟨q,0,none⟩)],.int .i64 z.1.1,.int .i64 z.1.2,.pointer (some ⟨hb,0,none⟩),.int .i64 z.1.1,.int .i64 (X.t.by_ z.1.1 TK.length),.pointer (some ⟨hb,0,none⟩),.int .i64 z.1.2,.int .i64 (X.t.by_ z.1.2 TK.length),.bool (X.t.by_ z.1.1 TK.length != X.t.by_ z.1.2 TK.length),undef,undef,undef,undef,undef,undef,undef,undef,undef,undef,undef,undef,undef,undef,undef,undef,undef,undef,undef],defers:=[] } W2 by
   have HSK:=q8 hK
   clear hK
   gi_region_with (refine ⟨trivial,(CallsIn.inRound l (callsIn_wide.2 (HGR.out _ _ (by assumption) (by assumption) (by assumption)))).mono ?_⟩;rintro e wa ⟨rfl,hxa,hka,hxa2⟩;have cka:=z6 hka 0;have HXA:=q8 hxa2;clear hxa2)
   all_goals
    rename_i wq h1 h2 h3 HQ
    exact HSK.out _ (((q9.refl (fun _=>False) W).drew.trans HQ.out).trans HXA.out)
  intro W2 hx2
  refine aK _ _ ?_
  clear aK
  have hBW2:Below w.heap.size w W2:=HB.out.trans (zc1 hx2 HB.out.size)
  have HBW2:=q8 hBW2
  have HX2:=q8 hx2
  have r2:W2.heap[w.heap.size+1+1]?=some (.cells #[.int .i64 0] 3):=(hx2.block _ (z8 I2.out) (fun f=>f)).trans I2.out
  have r3:W2.heap[w.heap.size+1+1+1]?=some (.cells #[.int .i64 0] 3):=(hx2.block _ (z8 I3.out) (fun f=>f)).trans I3.out
  have r4:W2.heap[w.heap.size+1+1+1+1]?=some (.cells #[.bool false] 4):=(hx2.block _ (z8 I4.out) (fun f=>f)).trans I4.out
  have r5:W2.heap[w.heap.size+1+1+1+1+1]?=some (.cells #[.int .i64 i] 3):=(hx2.block _ (z8 I5.out) (fun f=>f)).trans I5.out
  have r6:W2.heap[w.heap.size+1+1+1+1+1+1]?=some (.cells #[.int .i64 j] 3):=(hx2.block _ (z8 I6.out) (fun f=>f)).trans I6.out
  have r7:W2.heap[w.heap.size+1+1+1+1+1+1+1]?=some (.cells #[.bool s] 4):=(hx2.block _ (z8 I7.out) (fun f=>f)).trans I7.out
  have r0:W2.heap[w.heap.size]?=some (.cells #[.pointer (some ⟨hb,0,none⟩)] 139):=(hx2.block _ (z8 I0.out) (fun f=>f)).trans I0.out
  have e0:=z6 r0 0
  have e2:=z6 r2 0
  have e3:=z6 r3 0
  have e4:=z6 r4 0
  have f2:=Q0 r2 0
  have f3:=Q0 r3 0
  have f4:=Q0 r4 0
  have l2:=z8 r2
  have l3:=z8 r3
  have l4:=z8 r4
  have R2:=q8 r2
  have R3:=q8 r3
  have R4:=q8 r4
  have R5:=q8 r5
  have R6:=q8 r6
  have R7:=q8 r7
  obtain ⟨r,hr⟩:∃ r,(X.t.by_ z.1.1 TK.length != X.t.by_ z.1.2 TK.length)=r:=⟨_,rfl⟩
  rw [hr]
  have HR:=q8 hr
  have hxw2:q9 (fun _=>False) w W2:=q9.ofBelow hBW2
  have HXW2:=q8 hxw2
  clear hr hx2 hBW2 r0 r2 r3 r4 r5 r6 r7 hxw2 id0 ixd c0
  cases r with
  | true =>
   gi_wp2
   have hge:¬GE X.t z:=by have:=HR.out;unfold GE;simpa using this
   refine ⟨?_,⟨rfl,?_,?_,?_,z,by simp,hge⟩,?_⟩
   ·exact (KeepsOthers.of_ext HX2.out).trans (((KeepsOthers.setCell _ _ _).trans (KeepsOthers.setCell _ _ _)).trans (KeepsOthers.setCell _ _ _))
   ·exact (j8 _ _ (by show ¬w.heap.size+2=w.heap.size+1+1+1+1;omega)).trans ((j8 _ _ (by show ¬w.heap.size+2=w.heap.size+1+1+1;omega)).trans (Y0 R2.out 0 _))
   ·exact (j8 _ _ (by show ¬w.heap.size+3=w.heap.size+1+1+1+1;omega)).trans (Y0 ((j8 _ _ (by show ¬w.heap.size+3=w.heap.size+1+1;omega)).trans R3.out) 0 _)
   ·exact Y0 ((j8 _ _ (by show ¬w.heap.size+4=w.heap.size+1+1+1;omega)).trans ((j8 _ _ (by show ¬w.heap.size+4=w.heap.size+1+1;omega)).trans R4.out)) 0 _
   ·exact ((HBW2.out.setCell (p:=⟨w.heap.size+1+1,0,none⟩) (by show w.heap.size<=w.heap.size+1+1;omega) _).setCell (p:=⟨w.heap.size+1+1+1,0,none⟩) (by show w.heap.size<=w.heap.size+1+1+1;omega) _).setCell (p:=⟨w.heap.size+1+1+1+1,0,none⟩) (by show w.heap.size<=w.heap.size+1+1+1+1;omega) _
  | false =>
   have hge:GE X.t z:=by have:=HR.out;unfold GE;simpa using this
   have HGE:=q8 hge
   clear hge e2 e3 e4 f2 f3 f4
   gi_wp2
   refine ⟨trivial,(CallsIn.inRound l (callsIn_wide.2 (HNOW.out W2 HXW2.out))).mono ?_⟩
   rintro e W3 ⟨rfl,rfl⟩
   gi_wp2
   refine ⟨trivial,(CallsIn.inRound l (callsIn_wide.2 (HEQ.out W2.drew z HXW2.out.drew))).mono ?_⟩
   rintro e W4 ⟨hx4,mk,same,rfl,hke⟩
   have hx24:q9 (fun _=>False) W2 W4:=((q9.refl (fun _=>False) W2).drew).trans hx4
   have r5:W4.heap[w.heap.size+1+1+1+1+1]?=some (.cells #[.int .i64 i] 3):=(hx24.block _ (z8 R5.out) (fun f=>f)).trans R5.out
   have r6:W4.heap[w.heap.size+1+1+1+1+1+1]?=some (.cells #[.int .i64 j] 3):=(hx24.block _ (z8 R6.out) (fun f=>f)).trans R6.out
   have r7:W4.heap[w.heap.size+1+1+1+1+1+1+1]?=some (.cells #[.bool s] 4):=(hx24.block _ (z8 R7.out) (fun f=>f)).trans R7.out
   have e5:=z6 r5 0
   have e6:=z6 r6 0
   have e7:=z6 r7 0
   have f5:=Q0 r5 0
   have f6:=Q0 r6 0
   have f7:=Q0 r7 0
   have l5:=z8 r5
   have l6:=z8 r6
   have l7:=z8 r7
   have Q5:=q8 r5
   have Q6:=q8 r6
   have Q7:=q8 r7
   have HX4:=q8 (HX2.out.trans hx24)
   have HB4:=q8 (HBW2.out.trans (zc1 hx24 HBW2.out.size))
   have hx5:q9 (fun _=>False) W2 (W4.alloc (.cells #[.int .u64 mk.a.toNat,.int .u64 mk.b.toNat,.int .u64 mk.c.toNat] 197)):=hx24.alloc _
   have R5:=q8 ((hx5.block _ (z8 R5.out) (fun f=>f)).trans R5.out)
   have R6:=q8 ((hx5.block _ (z8 R6.out) (fun f=>f)).trans R6.out)
   have R7:=q8 ((hx5.block _ (z8 R7.out) (fun f=>f)).trans R7.out)
   have HKE:=q8 hke
   have hxT:q9 (fun _=>False) W (W4.alloc (.cells #[.int .u64 mk.a.toNat,.int .u64 mk.b.toNat,.int .u64 mk.c.toNat] 197)):=HX2.out.trans hx5
   have HXT:=q8 hxT
   have hBT:Below w.heap.size w (W4.alloc (.cells #[.int .u64 mk.a.toNat,.int .u64 mk.b.toNat,.int .u64 mk.c.toNat] 197)):=HBW2.out.trans (zc1 hx5 HBW2.out.size)
   have HBT:=q8 hBT
   have hp':¬p=w.heap.size+5/\¬p=w.heap.size+6/\¬p=w.heap.size+7:=by omega
   have hq':¬q=w.heap.size+5/\¬q=w.heap.size+6/\¬q=w.heap.size+7:=by omega
   have keep0:∀ k,k < W.heap.size->(W4.alloc (.cells #[.int .u64 mk.a.toNat,.int .u64 mk.b.toNat,.int .u64 mk.c.toNat] 197)).heap[k]?=W.heap[k]?:=fun k hk=>hxT.block k hk (fun f=>f)
   have HK0:=q8 keep0
   clear hx4 hx24 hx5 r5 r6 r7 hke hxT hBT keep0 e0
   cases same with
   | true =>
    gi_wp2
    have hk2:=HKE.out.1 (by simp)
    have hS2:ChI X.t (pre++[z]) i j s:=by
     cases s with
     | true=>exact HS.out.kept HGE.out
     | false=>exact HS.out.eq HGE.out hk2
    exact ⟨KeepsOthers.of_ext HXT.out,⟨HK0.out p (z8 IP.out),HK0.out q (z8 IQ.out)⟩,⟨(HK0.out p (z8 IP.out)).trans IP.out,(HK0.out q (z8 IQ.out)).trans IQ.out,(HK0.out _ (z8 I0.out)).trans I0.out,(HK0.out _ (z8 I2.out)).trans I2.out,(HK0.out _ (z8 I3.out)).trans I3.out,(HK0.out _ (z8 I4.out)).trans I4.out,i,j,s,R5.out,R6.out,R7.out,hS2⟩,HBT.out⟩
   | false =>
    have hk2:¬KE X.t z:=fun e=>by have:=HKE.out.2 e;simp at this
    have HK2:=q8 hk2
    clear hk2
    cases s with
    | true =>
     gi_wp2
     exact ⟨KeepsOthers.of_ext HXT.out,⟨HK0.out p (z8 IP.out),HK0.out q (z8 IQ.out)⟩,⟨(HK0.out p (z8 IP.out)).trans IP.out,(HK0.out q (z8 IQ.out)).trans IQ.out,(HK0.out _ (z8 I0.out)).trans I0.out,(HK0.out _ (z8 I2.out)).trans I2.out,(HK0.out _ (z8 I3.out)).trans I3.out,(HK0.out _ (z8 I4.out)).trans I4.out,i,j,true,R5.out,R6.out,R7.out,HS.out.kept HGE.out⟩,HBT.out⟩
    | false =>
     gi_wp2
     have keep:∀ k,k < W.heap.size->¬k=w.heap.size+5->¬k=w.heap.size+6->¬k=w.heap.size+7->((((W4.setCell ⟨w.heap.size+1+1+1+1+1,0,none⟩ (.int .i64 z.1.1)).setCell ⟨w.heap.size+1+1+1+1+1+1,0,none⟩ (.int .i64 z.1.2)).setCell ⟨w.heap.size+1+1+1+1+1+1+1,0,none⟩ (.bool true)).alloc (.cells #[.int .u64 mk.a.toNat,.int .u64 mk.b.toNat,.int .u64 mk.c.toNat] 197)).heap[k]?=W.heap[k]?:=by
      intro k hk n5 n6 n7
      have hk4:k < W4.heap.size:=Nat.lt_of_lt_of_le hk HX4.out.size
      exact (heap_alloc_old _ _ (by simpa using hk4)).trans ((j8 _ _ (by show ¬k=w.heap.size+1+1+1+1+1+1+1;omega)).trans ((j8 _ _ (by show ¬k=w.heap.size+1+1+1+1+1+1;omega)).trans ((j8 _ _ (by show ¬k=w.heap.size+1+1+1+1+1;omega)).trans (HX4.out.block k hk (fun f=>f)))))
     have kk0:=keep _ (z8 I0.out) (by omega) (by omega) (by omega)
     have kk2:=keep _ (z8 I2.out) (by omega) (by omega) (by omega)
     have kk3:=keep _ (z8 I3.out) (by omega) (by omega) (by omega)
     have kk4:=keep _ (z8 I4.out) (by omega) (by omega) (by omega)
     have kkp:=keep p (z8 IP.out) hp'.1 hp'.2.1 hp'.2.2
     have kkq:=keep q (z8 IQ.out) hq'.1 hq'.2.1 hq'.2.2
     refine ⟨(KeepsOthers.of_ext HX4.out).trans ((((KeepsOthers.setCell _ _ _).trans (KeepsOthers.setCell _ _ _)).trans (KeepsOthers.setCell _ _ _)).trans (KeepsOthers.alloc _ _)),⟨kkp,kkq⟩,⟨kkp.trans IP.out,kkq.trans IQ.out,kk0.trans I0.out,kk2.trans I2.out,kk3.trans I3.out,kk4.trans I4.out,z.1.1,z.1.2,true,?_,?_,?_,HS.out.new HGE.out HK2.out⟩,?_⟩
     ·exact (heap_alloc_old _ _ (by simpa using l5)).trans ((j8 _ _ (by show ¬w.heap.size+5=w.heap.size+1+1+1+1+1+1+1;omega)).trans ((j8 _ _ (by show ¬w.heap.size+5=w.heap.size+1+1+1+1+1+1;omega)).trans (Y0 Q5.out 0 _)))
     ·exact (heap_alloc_old _ _ (by simpa using l6)).trans ((j8 _ _ (by show ¬w.heap.size+6=w.heap.size+1+1+1+1+1+1+1;omega)).trans (Y0 ((j8 _ _ (by show ¬w.heap.size+6=w.heap.size+1+1+1+1+1;omega)).trans Q6.out) 0 _))
     ·exact (heap_alloc_old _ _ (by simpa using l7)).trans (Y0 ((j8 _ _ (by show ¬w.heap.size+7=w.heap.size+1+1+1+1+1+1;omega)).trans ((j8 _ _ (by show ¬w.heap.size+7=w.heap.size+1+1+1+1+1;omega)).trans Q7.out)) 0 _)
     ·exact (((HB4.out.setCell (p:=⟨w.heap.size+1+1+1+1+1,0,none⟩) (by show w.heap.size<=w.heap.size+1+1+1+1+1;omega) _).setCell (p:=⟨w.heap.size+1+1+1+1+1+1,0,none⟩) (by show w.heap.size<=w.heap.size+1+1+1+1+1+1;omega) _).setCell (p:=⟨w.heap.size+1+1+1+1+1+1+1,0,none⟩) (by show w.heap.size<=w.heap.size+1+1+1+1+1+1+1;omega) _).alloc (by simp;exact HB4.out.size) _
 case done =>
  rintro D ys W hD rfl ⟨⟨ip,iq,i0,i2,i3,i4,i,j,s,i5,i6,i7,hS⟩,hB⟩ hK
  have c5:=z6 i5 0
  have c6:=z6 i6 0
  have c7:=z6 i7 0
  have e2:=z6 i2 0
  have e3:=z6 i3 0
  have e4:=z6 i4 0
  have f2:=Q0 i2 0
  have f3:=Q0 i3 0
  have f4:=Q0 i4 0
  have hDw:w.heap.size<=D:=Nat.le_trans hB1.size hD
  obtain ⟨Wf,hWf⟩:∃ Wf,(((W.setCell ⟨w.heap.size+1+1,0,none⟩ (.int .i64 i)).setCell ⟨w.heap.size+1+1+1,0,none⟩ (.int .i64 j)).setCell ⟨w.heap.size+1+1+1+1,0,none⟩ (.bool s)).drew=Wf:=⟨_,rfl⟩
  have hKf:Wf.heap[D]?=some (.deferred (some [])):=by
   rw [<- hWf]
   show (((W.setCell ⟨w.heap.size+1+1,0,none⟩ (.int .i64 i)).setCell ⟨w.heap.size+1+1+1,0,none⟩ (.int .i64 j)).setCell ⟨w.heap.size+1+1+1+1,0,none⟩ (.bool s)).heap[D]?=_
   exact (KeepsOthers.setCell _ _ _).same D _ ((KeepsOthers.setCell _ _ _).same D _ ((KeepsOthers.setCell _ _ _).same D _ hK rfl) rfl) rfl
  have b2:Wf.heap[w.heap.size+1+1]?=some (.cells #[.int .i64 i] 3):=by
   rw [<- hWf]
   show (((W.setCell ⟨w.heap.size+1+1,0,none⟩ (.int .i64 i)).setCell ⟨w.heap.size+1+1+1,0,none⟩ (.int .i64 j)).setCell ⟨w.heap.size+1+1+1+1,0,none⟩ (.bool s)).heap[w.heap.size+1+1]?=_
   exact (j8 _ _ (by show ¬w.heap.size+1+1=w.heap.size+1+1+1+1;omega)).trans ((j8 _ _ (by show ¬w.heap.size+1+1=w.heap.size+1+1+1;omega)).trans (Y0 i2 0 _))
  have b3:Wf.heap[w.heap.size+1+1+1]?=some (.cells #[.int .i64 j] 3):=by
   rw [<- hWf]
   show (((W.setCell ⟨w.heap.size+1+1,0,none⟩ (.int .i64 i)).setCell ⟨w.heap.size+1+1+1,0,none⟩ (.int .i64 j)).setCell ⟨w.heap.size+1+1+1+1,0,none⟩ (.bool s)).heap[w.heap.size+1+1+1]?=_
   exact (j8 _ _ (by show ¬w.heap.size+1+1+1=w.heap.size+1+1+1+1;omega)).trans (Y0 ((j8 _ _ (by show ¬w.heap.size+1+1+1=w.heap.size+1+1;omega)).trans i3) 0 _)
  have b4:Wf.heap[w.heap.size+1+1+1+1]?=some (.cells #[.bool s] 4):=by
   rw [<- hWf]
   show (((W.setCell ⟨w.heap.size+1+1,0,none⟩ (.int .i64 i)).setCell ⟨w.heap.size+1+1+1,0,none⟩ (.int .i64 j)).setCell ⟨w.heap.size+1+1+1+1,0,none⟩ (.bool s)).heap[w.heap.size+1+1+1+1]?=_
   exact Y0 ((j8 _ _ (by show ¬w.heap.size+1+1+1+1=w.heap.size+1+1+1;omega)).trans ((j8 _ _ (by show ¬w.heap.size+1+1+1+1=w.heap.size+1+1;omega)).trans i4)) 0 _
  have hBf:Below w.heap.size w Wf:=by
   have h1:Below w.heap.size w (((W.setCell ⟨w.heap.size+1+1,0,none⟩ (.int .i64 i)).setCell ⟨w.heap.size+1+1+1,0,none⟩ (.int .i64 j)).setCell ⟨w.heap.size+1+1+1+1,0,none⟩ (.bool s)):=((hB.setCell (p:=⟨w.heap.size+1+1,0,none⟩) (by show w.heap.size<=w.heap.size+1+1;omega) _).setCell (p:=⟨w.heap.size+1+1+1,0,none⟩) (by show w.heap.size<=w.heap.size+1+1+1;omega) _).setCell (p:=⟨w.heap.size+1+1+1+1,0,none⟩) (by show w.heap.size<=w.heap.size+1+1+1+1;omega) _
   rw [<- hWf]
   exact ⟨h1.os,h1.tape,h1.output,h1.size,h1.block⟩
  have HWF:=q8 hWf
  have g2:=Z7 b2 (grownBy_putObj' Wf D (.deferred none)) (fun r e=>by cases e;exact ⟨_,hKf,rfl⟩)
  have g3:=Z7 b3 (grownBy_putObj' Wf D (.deferred none)) (fun r e=>by cases e;exact ⟨_,hKf,rfl⟩)
  have g4:=Z7 b4 (grownBy_putObj' Wf D (.deferred none)) (fun r e=>by cases e;exact ⟨_,hKf,rfl⟩)
  have z2:=z6 g2 0
  have z3:=z6 g3 0
  have z4:=z6 g4 0
  clear hWf ip iq i0 i2 i3 i4 i5 i6 i7 b2 b3 b4 g2 g3 g4
  gi_wp2
  gi_region_with fail
  all_goals
   gi_wp2
   rw [HWF.out]
   refine ⟨by simp,.inl ⟨_,_,rfl,run_takeDeferred hKf,?_⟩⟩
   refine ⟨.tuple #[.int .i64 i,.int .i64 j,.bool s],?_,i,j,s,rfl,hBf.trans (belowK_b (w:=w) (Nat.le_refl _) Wf D _ _ hDw hKf rfl rfl),fun e=>?_,fun e=>?_⟩
   ·simp [results,Tryz.results265,go_sem,z2,z3,z4]
   ·obtain ⟨u,h1,h2,h3⟩:=hS.yes e
    exact ⟨u,h1,h2,hS.ge u h1,h3⟩
   ·exact .inr (hS.no e)
 case stop =>
  rintro D c pre W hD ⟨k,hk,rfl⟩ ⟨⟨rfl,i2,i3,i4,z,hz,hn⟩,hB⟩ hK
  have hDw:w.heap.size<=D:=Nat.le_trans hB1.size hD
  have g2:(W.putObj D (.deferred none)).heap[w.heap.size+1+1]?=some (.cells #[.int .i64 0] 3):=Z7 i2 (grownBy_putObj' W D (.deferred none)) (fun r e=>by cases e;exact ⟨_,hK,rfl⟩)
  have g3:(W.putObj D (.deferred none)).heap[w.heap.size+1+1+1]?=some (.cells #[.int .i64 0] 3):=Z7 i3 (grownBy_putObj' W D (.deferred none)) (fun r e=>by cases e;exact ⟨_,hK,rfl⟩)
  have g4:(W.putObj D (.deferred none)).heap[w.heap.size+1+1+1+1]?=some (.cells #[.bool false] 4):=Z7 i4 (grownBy_putObj' W D (.deferred none)) (fun r e=>by cases e;exact ⟨_,hK,rfl⟩)
  have z2:=z6 g2 0
  have z3:=z6 g3 0
  have z4:=z6 g4 0
  gi_wp2
  refine ⟨by simp,.inl ⟨_,_,rfl,run_takeDeferred hK,?_⟩⟩
  refine ⟨.tuple #[.int .i64 0,.int .i64 0,.bool false],?_,0,0,false,rfl,hB.trans (belowK_b (w:=w) (Nat.le_refl _) W D _ _ hDw hK rfl rfl),fun e=>by simp at e,fun _=>.inl ⟨z,List.mem_of_mem_take hz,hn⟩⟩
  simp [results,Tryz.results265,go_sem,z2,z3,z4]
theorem ql4 (h:ThR w hb g c TK AK tw As (TT++[X])) {a b:Nat} {x y:Z0} (hx:TK[a]?=some x) (hy:TK[b]?=some y) (hT:TK.length<=12) (hl:TT.length<=500) {ar:Nat} {zs:List (PN2 TK.length)} (hP:Prs x y ar zs) :
  Calls Tryz.prog 265 #[.pointer (some ⟨hb,0,none⟩),.agg #[.int .i64 a,.int .i64 b]] w fun e w'=>∃ (i j:Nat) (s:Bool),e=.returned (.tuple #[.int .i64 i,.int .i64 j,.bool s])/\q9 (fun _=>False) w w'/\(s=true->∃ z∈zs,z.1=(i,j)/\GE X.t z/\¬KE X.t z)/\(s=false->(∃ z∈zs,¬GE X.t z)\/∀ z∈zs,KE X.t z) :=
 (callsIn_wide.1 (qA2 h hx hy hT hl hP)).mono (fun _ _ ⟨i,j,s,h1,h2,h3⟩=>⟨i,j,s,h1,q9.ofBelow h2,h3⟩)
end
end Go.Proofs.YtegbdaffhpiacaaGreatDoor
