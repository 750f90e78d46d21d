/- A part of the proof. -/
import Derived.Test.YtegbdaffhpiacaaGreatDoorMod22
import Derived.RangeFuncNested
import Derived.RangeFuncBound
import Derived.RangeFuncCalls
import Derived.RangeFuncLeaves
import Derived.Shelf.Abstract
import Derived.OwnWalkIn
import Derived.TacticsInMore
import Derived.LoopNIn
import Derived.LoopIn
import Derived.Stop.RegionWithIn
set_option maxRecDepth 100000
set_option maxHeartbeats 2000000
namespace Go.Proofs.YtegbdaffhpiacaaGreatDoor
open Tryz
section
open Go.RowKit Ar
attribute [local go_sem] Oper.semAt_some
def zf7(x:Z3):List Int:=[x.a0,x.a1,x.a2]
abbrev PN2(m:Nat) := { z:Nat × Nat // z.1<m/\z.2<m }
structure Prs{m:Nat}(x y:Z3)(ar:Nat)(zs:List (PN2 m)):Prop where
 arn:x.ar=ar
 le:ar<=3
 len:zs.length=ar
 get:∀ (k:Nat) (z:PN2 m),zs[k]?=some z->(zf7 x)[k]?=some (z.1.1:Int)/\(zf7 y)[k]?=some (z.1.2:Int)
theorem zb2{α:Type}{l:List α}{k:Nat}{z:α}(h:l[k]?=some z):l.take (k+1)=l.take k++[z]:=by rw[List.take_add_one,h];rfl
theorem zY9{J Jx:World->Prop}{K:World->Prop}{e:Ending}{W:World}(h:(e=.returned (.bool true)/\J W/\K W)\/(e=.returned (.bool false)/\Jx W)):∃ ok:Bool,e=.returned (.bool ok)/\(ok=true->J W/\K W)/\(ok=false->Jx W):=by
 rcases h with⟨h1,h2⟩|⟨h1,h2⟩
 ·exact⟨true,h1,fun _=>h2,fun e=>by simp at e⟩
 ·exact⟨false,h1,fun e=>by simp at e,fun _=>h2⟩
def zR7(p q:Nat)(W W':World):Prop:=W'.heap[p]?=W.heap[p]?/\W'.heap[q]?=W.heap[q]?
theorem qP1{m:Nat}(l p q:Nat)(x y:Z3)(ar:Nat)(zs:List (PN2 m))(hP:Prs x y ar zs)(n:Nat)(hn:1<=n)(J Jx:List (PN2 m)->World->Prop)
  (hY:∀ pre z W,J pre W->pre.length<ar->YieldAt Fence.wide (n-1) prog l #[.int .i64 z.1.1,.int .i64 z.1.2] W fun e W'=>
   (e=.returned (.bool true)/\J (pre++[z]) W'/\zR7 p q W W')\/(e=.returned (.bool false)/\Jx (pre++[z]) W'))
  (hdr:∀ pre W,J pre W->J pre W.drew)
  (W:World) (kp:W.heap[p]?=some (.cells (ze2 x) 145)) (kq:W.heap[q]?=some (.cells (ze2 y) 145)) (h0:J [] W):
  CallsIn Fence.wide n prog 275 #[.func (.yield l) #[] #[],.pointer (some ⟨p,0,none⟩),.pointer (some ⟨q,0,none⟩)] W fun e W'=>(∃ v,e=.returned v) /\
   ((∃ ys,ys=zs/\J ys W')\/(∃ pre,(∃ k,k<=ar/\pre=zs.take k)/\Jx pre W')):=by
 have har3:=hP.le;have p1:W.cell? ⟨p,1,none⟩=some (.int .i64 ar):=by rw[<- hP.arn];exact z6 kp 1
 refine callsIn_of_wp func275 rfl trivial ?_ rfl;simp only[ntmps275,List.size_toArray,List.length_cons,List.length_nil,Nat.reduceAdd,Nat.reduceSub,Array.replicate_succ,Array.replicate_zero,List.push_toArray,List.append_toArray,List.nil_append,List.cons_append]
 gi_wp2
 gi_loopw [8] (fun i wr=>∃ k:Nat,k<=ar/\i=.int .i64 k/\J (zs.take k) wr/\zR7 p q W wr) (fun i _=>ar-(intOf i).toNat)
 case atStart=>exact⟨0,Nat.zero_le _,rfl,h0,rfl,rfl⟩
 case round=>
  obtain⟨k,hk,rfl,hJs,hkp⟩:=hrel;have kp2:=hkp.1.trans kp;have kq2:=hkp.2.trans kq;by_cases hlt:k<ar
  ·obtain⟨z,hz⟩:∃ z,zs[k]?=some z:=⟨_,List.getElem?_eq_getElem (by rw[hP.len];exact hlt)⟩;obtain⟨hza,hzb⟩:=hP.get k z hz;have hc:k=0\/k=1\/k=2:=by omega
   rcases hc with rfl|rfl|rfl<;>simp only[zf7,List.getElem?_cons_zero,List.getElem?_cons_succ,Option.some.injEq] at hza hzb
   ·have a1:wr.cell? ⟨p,2,none⟩=some (.int .i64 z.1.1):=by rw[<- hza];exact z6 kp2 2
    have b1:wr.cell? ⟨q,2,none⟩=some (.int .i64 z.1.2):=by rw[<- hzb];exact z6 kq2 2
    obtain⟨fn,tmps,assign,body,hy,hR⟩:=hY _ z wr.drew (hdr _ _ hJs) (by rw[List.length_take,hP.len];omega);have HP2:=q8 hkp;have HZ:=q8 hz;clear hza hzb hz
    gi_wp2
    gi_region_with (refine hR.mono ?_;rintro e W3 hh;obtain⟨ok,rfl,hJ3,hJx3⟩:=zY9 (J:=J (zs.take 0++[z])) (Jx:=Jx (zs.take 0++[z])) (K:=zR7 p q wr.drew) hh;have HJ3:=q8 hJ3;have HJX3:=q8 hJx3;clear hh hJ3 hJx3)
    all_goals
     cases ok with
     | true=>
      gi_wp2
      go_roundw
      case rel=>exact⟨1,by omega,by go_num,by rw[zb2 HZ.out];exact(HJ3.out rfl).1,((HJ3.out rfl).2.1).trans HP2.out.1,((HJ3.out rfl).2.2).trans HP2.out.2⟩
      case measure=>simp[intOf];omega
     | false=>
      gi_wp2
      refine bodyPost_ret (results_none rfl _ _ _) rfl ?_;exact⟨⟨_,rfl⟩,.inr ⟨_,⟨1,by omega,rfl⟩,by rw[zb2 HZ.out];exact HJX3.out (by simp)⟩⟩
   ·have a1:wr.cell? ⟨p,3,none⟩=some (.int .i64 z.1.1):=by rw[<- hza];exact z6 kp2 3
    have b1:wr.cell? ⟨q,3,none⟩=some (.int .i64 z.1.2):=by rw[<- hzb];exact z6 kq2 3
    obtain⟨fn,tmps,assign,body,hy,hR⟩:=hY _ z wr.drew (hdr _ _ hJs) (by rw[List.length_take,hP.len];omega);have HP2:=q8 hkp;have HZ:=q8 hz;clear hza hzb hz
    gi_wp2
    gi_region_with (refine hR.mono ?_;rintro e W3 hh;obtain⟨ok,rfl,hJ3,hJx3⟩:=zY9 (J:=J (zs.take 1++[z])) (Jx:=Jx (zs.take 1++[z])) (K:=zR7 p q wr.drew) hh;have HJ3:=q8 hJ3;have HJX3:=q8 hJx3;clear hh hJ3 hJx3)
    all_goals
     cases ok with
     | true=>
      gi_wp2
      go_roundw
      case rel=>exact⟨2,by omega,by go_num,by rw[zb2 HZ.out];exact(HJ3.out rfl).1,((HJ3.out rfl).2.1).trans HP2.out.1,((HJ3.out rfl).2.2).trans HP2.out.2⟩
      case measure=>simp[intOf];omega
     | false=>
      gi_wp2
      refine bodyPost_ret (results_none rfl _ _ _) rfl ?_;exact⟨⟨_,rfl⟩,.inr ⟨_,⟨2,by omega,rfl⟩,by rw[zb2 HZ.out];exact HJX3.out (by simp)⟩⟩
   ·have a1:wr.cell? ⟨p,4,none⟩=some (.int .i64 z.1.1):=by rw[<- hza];exact z6 kp2 4
    have b1:wr.cell? ⟨q,4,none⟩=some (.int .i64 z.1.2):=by rw[<- hzb];exact z6 kq2 4
    obtain⟨fn,tmps,assign,body,hy,hR⟩:=hY _ z wr.drew (hdr _ _ hJs) (by rw[List.length_take,hP.len];omega);have HP2:=q8 hkp;have HZ:=q8 hz;clear hza hzb hz
    gi_wp2
    gi_region_with (refine hR.mono ?_;rintro e W3 hh;obtain⟨ok,rfl,hJ3,hJx3⟩:=zY9 (J:=J (zs.take 2++[z])) (Jx:=Jx (zs.take 2++[z])) (K:=zR7 p q wr.drew) hh;have HJ3:=q8 hJ3;have HJX3:=q8 hJx3;clear hh hJ3 hJx3)
    all_goals
     cases ok with
     | true=>
      gi_wp2
      go_roundw
      case rel=>exact⟨3,by omega,by go_num,by rw[zb2 HZ.out];exact(HJ3.out rfl).1,((HJ3.out rfl).2.1).trans HP2.out.1,((HJ3.out rfl).2.2).trans HP2.out.2⟩
      case measure=>simp[intOf];omega
     | false=>
      gi_wp2
      refine bodyPost_ret (results_none rfl _ _ _) rfl ?_;exact⟨⟨_,rfl⟩,.inr ⟨_,⟨3,by omega,rfl⟩,by rw[zb2 HZ.out];exact HJX3.out (by simp)⟩⟩
  ·obtain rfl:k=ar:=by omega
   gi_wp2
   go_end0
   exact⟨⟨_,rfl⟩,.inl ⟨_,by rw[<- hP.len,List.take_length],hJs⟩⟩
theorem qp7(W:World):W.grownBy W.drew none:=⟨rfl,rfl,rfl,Nat.le_refl _,fun _ _ _=>rfl⟩
theorem zK8{m:Nat}{w:World}{p q:Nat}{x y:Z3}{ar:Nat}{zs:List (PN2 m)}(hP:Prs x y ar zs)(kp:w.heap[p]?=some (.cells (ze2 x) 145))(kq:w.heap[q]?=some (.cells (ze2 y) 145))(n:Nat)(hn:1<=n):
  SeqStopsK Fence.wide n prog 275 #[.pointer (some ⟨p,0,none⟩),.pointer (some ⟨q,0,none⟩)] (fun z:PN2 m=>#[.int .i64 z.1.1,.int .i64 z.1.2]) (zR7 p q) (fun ys=>ys=zs) (fun pre=>∃ k,k<=ar/\pre=zs.take k) ar w:=by
 intro l J Jx W hW hJ hJx hY h0;exact qP1 l p q x y ar zs hP n hn J Jx hY (fun pre W1 h=>hJ pre W1 _ none h (qp7 W1) (fun r e=>by cases e)) W ((hW.block p (z8 kp)).trans kp) ((hW.block q (z8 kq)).trans kq) h0
theorem jk5{p q:Nat}{A B C:World}(h:zR7 p q A B)(k:zR7 p q B C):zR7 p q A C:=⟨k.1.trans h.1,k.2.trans h.2⟩
theorem jk6{p q:Nat}{w:World}(hp:p<w.heap.size)(hq:q<w.heap.size)(W:World)(l:Nat)(o o':Obj)(hl:w.heap.size<=l)(_:W.heap[l]?=some o)(_:o.isCells=false)(_:o.isWalk=false):zR7 p q W (W.putObj l o') :=
 ⟨World.putObj_heap_other (by omega),World.putObj_heap_other (by omega)⟩
end
section
open Go.RowKit Ar
attribute [local go_sem] Oper.semAt_some
theorem Z8{W W':World}{row:Option Nat}{k:Nat}{C:Array Value}{t:TypeId}(h:W.heap[k]?=some (.cells C t))(hg:W.grownBy W' row)(hr:∀ r,row=some r->∃ o:Obj,W.heap[r]?=some o/\o.isCells=false):W'.heap[k]?=some (.cells C t):=by refine(hg.block k (z8 h) (fun e=>?_)).trans h;obtain⟨o,h1,h2⟩:=hr k (by first|exact e|exact e.symm);rw[h] at h1;cases h1;simp[Obj.isCells] at h2
theorem q9.toBelow{w w':World}(h:q9 (fun _=>False) w w'):Below w.heap.size w w':=⟨h.os,h.tape,h.output,h.size,fun k hk=>h.block k hk (fun f=>f)⟩
theorem q9.ofBelow{w w':World}(h:Below w.heap.size w w'):q9 (fun _=>False) w w':=⟨h.os,h.tape,h.output,h.size,fun k hk _=>h.block k hk⟩
theorem zd1{B:Nat}{w w':World}(h:q9 (fun _=>False) w w')(hB:B<=w.heap.size):Below B w w':=⟨h.os,h.tape,h.output,h.size,fun k hk=>h.block k (by omega) (fun f=>f)⟩
theorem KeepsOthers.of_ext{w w':World}(h:q9 (fun _=>False) w w'):KeepsOthers w w' :=
 ⟨h.size,fun k _ hk _=>(h.block k (Array.getElem?_eq_some_iff.1 hk).1 (fun f=>f)).trans hk⟩
section
variable{w:World}{hb g:Nat}{c:ThV}{TK:List Z3}{AK:List PA}{tw:List (Nat × Nat)}{As:List (PA × Bool)}{TT:List W9}{X:W9}{F:Fx}
def KE(T:Tb){m:Nat}(z:PN2 m):Prop:=T.by_ z.1.1 z.1.2<=0/\T.by_ z.1.2 z.1.1<=0
structure SmI{m:Nat}(T:Tb)(V:(Nat->Int)->Prop)(H:Nat->(Nat->Int)->Prop)(K:Nat)(pre:List (PN2 m))(mk:M3):Prop where
 ke:∀ z∈pre,KE T z
 bl:J8 K mk
 eq:∀ v,V v->Hs H mk v->∀ z∈pre,v z.1.1=v z.1.2
theorem SmI.snoc{m:Nat}{far:Int}{T:Tb}{V:(Nat->Int)->Prop}{H:Nat->(Nat->Int)->Prop}{K:Nat}{pre:List (PN2 m)}{mk:M3}(h:SmI T V H K pre mk){z:PN2 m}{n:Nat}(hI:V9 n far V H K T)(hm:m<=n)(hz:KE T z):SmI T V H K (pre++[z]) (mk.or ((T.why z.1.1 z.1.2).or (T.why z.1.2 z.1.1))):=by
 have h1:z.1.1<n:=by have:=z.2.1;omega
 have h2:z.1.2<n:=by have:=z.2.2;omega
 refine⟨fun u hu=>?_,h.bl.or ((hI.mks _ _ h1 h2).or (hI.mks _ _ h2 h1)),fun v hv hh u hu=>?_⟩
 ·rcases List.mem_append.1 hu with e|e
  ·exact h.ke u e
  ·simp at e;subst e;exact hz
 ·rw[Hs.or,Hs.or] at hh;rcases List.mem_append.1 hu with e|e
  ·exact h.eq v hv hh.1 u e
  ·simp at e;subst e;have a1:=hI.snd _ _ h1 h2 v hv hh.2.1;have a2:=hI.snd _ _ h2 h1 v hv hh.2.2;have a3:=hz.1;have a4:=hz.2;omega
theorem ja6(h:ThR w hb g c TK AK tw As (TT++[X])){a b:Nat}{x y:Z3}(hx:TK[a]?=some x)(hy:TK[b]?=some y)(hT:TK.length<=12)(hl:TT.length<=500){ar:Nat}{zs:List (PN2 TK.length)}(hP:Prs x y ar zs){far:Int}{V:(Nat->Int)->Prop}{H:Nat->(Nat->Int)->Prop}{K:Nat}(hI:V9 (TK.length+1) far V H K X.t):
  CallsIn Fence.wide 5 prog 274 #[.pointer (some ⟨hb,0,none⟩),.agg #[.int .i64 a,.int .i64 b]] w fun e w'=>∃ (mk:M3) (same:Bool),e=.returned (.tuple #[.agg #[.int .u64 mk.a.toNat,.int .u64 mk.b.toNat,.int .u64 mk.c.toNat],.bool same])/\Below w.heap.size w w'/\(same=true->SmI X.t V H K zs mk)/\(same=false->∃ z∈zs,¬KE X.t z):=by
 have HH:=q8 h;have HP:=q8 hP;have HI:=q8 hI;have HARG:Hid (∀ W,q9 (fun _=>False) w W->Calls prog 271 #[.pointer (some ⟨hb,0,none⟩),.agg #[.int .i64 a,.int .i64 b]] W fun e w'=>∃ p q,e=.returned (.func (.func 275) #[] #[.pointer (some ⟨p,0,none⟩),.pointer (some ⟨q,0,none⟩)])/\W.heap.size<=p/\W.heap.size<=q/\q9 (fun _=>False) W w'/\w'.heap[p]?=some (.cells (ze2 x) 145)/\w'.heap[q]?=some (.cells (ze2 y) 145)) :=
  fun W hxw=>qg1 (h.ext hxw (fun _ _ f=>f)) hx hy
 have HNOW:Hid (∀ W,q9 (fun _=>False) w W->Calls prog 259 #[.pointer (some ⟨hb,0,none⟩)] W fun e w'=>e=.returned (.pointer (some ⟨g,TT.length*681,none⟩))/\w' = W.drew):=by intro W hxw;have:=zg5 (h.ext hxw (fun _ _ f=>f)) (by simp) (by simp;omega);rw[List.length_append,List.length_singleton,Nat.add_sub_cancel] at this;exact this
 obtain⟨C,kg,hTab,_⟩:=h.tab;have HEQ:Hid (∀ (W:World) (z:PN2 TK.length),q9 (fun _=>False) w W->Calls prog 272 #[.pointer (some ⟨g,TT.length*681,none⟩),.int .i64 z.1.1,.int .i64 z.1.2] W fun e w'=>q9 (fun _=>False) W w'/\((e=.returned (.tuple #[.agg #[.int .u64 0,.int .u64 0,.int .u64 0],.bool false])/\¬KE X.t z)\/(e=.returned (.tuple #[((X.t.why z.1.1 z.1.2).or (X.t.why z.1.2 z.1.1)).val,.bool true])/\KE X.t z))) :=
  fun W z hxw=>zT1 ((hxw.block _ (z8 kg) (fun f=>f)).trans kg) hTab (by have:=z.2.1;omega) (by have:=z.2.2;omega)
 obtain⟨off,hoff⟩:∃ off,TT.length*681=off:=⟨_,rfl⟩;rw[hoff] at HNOW HEQ;obtain⟨W0,hW0⟩:∃ W0,(((((w.alloc (Obj.cells #[.pointer (some ⟨hb,0,none⟩)] 139)).alloc (Obj.cells #[.int .i64 a,.int .i64 b] 151)).alloc (Obj.cells #[.int .u64 0,.int .u64 0,.int .u64 0] 197)).alloc (Obj.cells #[.bool false] 4)).alloc (Obj.cells #[.int .u64 0,.int .u64 0,.int .u64 0] 197))=W0:=⟨_,rfl⟩;have hxW0:q9 (fun _=>False) w W0:=by rw[<- hW0];exact(((((q9.refl _ w).alloc _).alloc _).alloc _).alloc _).alloc _
 have hsz0:W0.heap.size=w.heap.size+5:=by rw[<- hW0];simp
 have k0:W0.heap[w.heap.size]?=some (.cells #[.pointer (some ⟨hb,0,none⟩)] 139):=by rw[<- hW0,heap_alloc_old _ _ (by simp;omega),heap_alloc_old _ _ (by simp;omega),heap_alloc_old _ _ (by simp;omega),heap_alloc_old _ _ (by simp)];exact heap_alloc_new w _
 have k2:W0.heap[w.heap.size+2]?=some (.cells #[.int .u64 0,.int .u64 0,.int .u64 0] 197):=by rw[<- hW0,heap_alloc_old _ _ (by simp),heap_alloc_old _ _ (by simp)];have:=heap_alloc_new ((w.alloc (Obj.cells #[.pointer (some ⟨hb,0,none⟩)] 139)).alloc (Obj.cells #[.int .i64 a,.int .i64 b] 151)) (Obj.cells #[.int .u64 0,.int .u64 0,.int .u64 0] 197);simpa using this
 have k3:W0.heap[w.heap.size+3]?=some (.cells #[.bool false] 4):=by rw[<- hW0,heap_alloc_old _ _ (by simp)];have:=heap_alloc_new (((w.alloc (Obj.cells #[.pointer (some ⟨hb,0,none⟩)] 139)).alloc (Obj.cells #[.int .i64 a,.int .i64 b] 151)).alloc (Obj.cells #[.int .u64 0,.int .u64 0,.int .u64 0] 197)) (Obj.cells #[.bool false] 4);simpa using this
 have k4:W0.heap[w.heap.size+4]?=some (.cells #[.int .u64 0,.int .u64 0,.int .u64 0] 197):=by rw[<- hW0];have:=heap_alloc_new ((((w.alloc (Obj.cells #[.pointer (some ⟨hb,0,none⟩)] 139)).alloc (Obj.cells #[.int .i64 a,.int .i64 b] 151)).alloc (Obj.cells #[.int .u64 0,.int .u64 0,.int .u64 0] 197)).alloc (Obj.cells #[.bool false] 4)) (Obj.cells #[.int .u64 0,.int .u64 0,.int .u64 0] 197);simpa using this
 have HWE:=q8 hW0;clear h hx hy hP hI kg hTab hW0 hoff;refine callsIn_of_wp_marks func274 rfl trivial ?_ rfl;simp only[ntmps274,List.size_toArray,List.length_cons,List.length_nil,Nat.reduceAdd,Nat.reduceSub,Array.replicate_succ,Array.replicate_zero,List.push_toArray,List.append_toArray,List.nil_append,List.cons_append]
 gi_wp2
 rw[HWE.out];clear HWE;refine⟨trivial,(callsIn_wide.2 (HARG.out W0 hxW0)).mono ?_⟩;rintro e w1 ⟨p,q,rfl,hp,hq,hx1,kp,kq⟩;have j0:=(hx1.block _ (z8 k0) (fun f=>f)).trans k0;have j2:=(hx1.block _ (z8 k2) (fun f=>f)).trans k2;have j3:=(hx1.block _ (z8 k3) (fun f=>f)).trans k3;have j4:=(hx1.block _ (z8 k4) (fun f=>f)).trans k4;have hB1:Below w.heap.size w w1:=(hxW0.trans hx1).toBelow;clear k0 k2 k3 k4 HARG
 gi_wp2
 refine wpIn_rangeFunc_ownF (F:=Fence.wide) (n:=5) rfl (by omega) (gf:=275) (lb:=#[.pointer (some ⟨p,0,none⟩),.pointer (some ⟨q,0,none⟩)]) rfl trivial (enters_of func275 (by kernel_rfl) rfl)
  (zK8 HP.out kp kq 4 (by omega)) jk5 (jk6 (z8 kp) (z8 kq)) (Below.refl _ _) (fun _=>rfl)
  (fun pre W=>(W.heap[p]?=some (.cells (ze2 x) 145)/\W.heap[q]?=some (.cells (ze2 y) 145)/\W.heap[w.heap.size]?=some (.cells #[.pointer (some ⟨hb,0,none⟩)] 139)/\W.heap[w.heap.size+2]?=some (.cells #[.int .u64 0,.int .u64 0,.int .u64 0] 197)/\W.heap[w.heap.size+3]?=some (.cells #[.bool false] 4)/\∃ mk:M3,W.heap[w.heap.size+4]?=some (.cells #[.int .u64 mk.a.toNat,.int .u64 mk.b.toNat,.int .u64 mk.c.toNat] 197)/\SmI X.t V H K pre mk)/\Below w.heap.size w W)
  (fun c pre W=>(c=.ret/\W.heap[w.heap.size+2]?=some (.cells #[.int .u64 0,.int .u64 0,.int .u64 0] 197)/\W.heap[w.heap.size+3]?=some (.cells #[.bool false] 4)/\∃ z∈pre,¬KE X.t z)/\Below w.heap.size w W)
  (OwnFrom.and (Own.from (fun s A B row hs hg hr=>by obtain⟨hp1,hq1,h1,h2,h3,mk,h4,h5⟩:=hs;exact⟨Z8 hp1 hg hr,Z8 hq1 hg hr,Z8 h1 hg hr,Z8 h2 hg hr,Z8 h3 hg hr,mk,Z8 h4 hg hr,h5⟩) _) (ownFrom_below (Nat.le_refl _) (hB1.size)))
  (fun c=>OwnFrom.and (Own.from (fun s A B row hs hg hr=>by obtain⟨h1,h2,h3,h4⟩:=hs;exact⟨h1,Z8 h2 hg hr,Z8 h3 hg hr,h4⟩) _) (ownFrom_below (Nat.le_refl _) (hB1.size)))
  ⟨⟨kp,kq,j0,j2,j3,M3.none,j4,⟨fun z hz=>by simp at hz,J8.none _,fun v hv hh z hz=>by simp at hz⟩⟩,hB1⟩
  (fun z => { tmps:=#[.pointer (some ⟨hb,0,none⟩),.agg #[.int .i64 a,.int .i64 b],.pointer (some ⟨w.heap.size,0,none⟩),.pointer (some ⟨w.heap.size+1,0,none⟩),.pointer (some ⟨w.heap.size+1+1,0,none⟩),.pointer (some ⟨w.heap.size+1+1+1,0,none⟩),.pointer (some ⟨w.heap.size+1+1+1+1,0,none⟩),.int .i64 z.1.1,.int .i64 z.1.2,undef,undef,.pointer (some ⟨hb,0,none⟩),.agg #[.int .i64 a,.int .i64 b],.func (.func 275) #[] #[.pointer (some ⟨p,0,none⟩),.pointer (some ⟨q,0,none⟩)],.int .i64 z.1.1,.int .i64 z.1.2,undef,undef,undef,undef,undef,undef,undef,undef,undef,undef,undef,undef,undef,undef,undef],defers:=[] }) ?assign ?body ?done ?stop
 case assign=>
  intro l z W K hK
  gi_wp2
  exact hK
 case body=>
  rintro l pre z W ⟨⟨ip,iq,i0,i2,i3,mk,i4,hS⟩,hB⟩ _;have c0:=z6 i0 0;have hxw:q9 (fun _=>False) w W:=q9.ofBelow hB;have IP:=q8 ip;have IQ:=q8 iq;have I0:=q8 i0;have I2:=q8 i2;have I3:=q8 i3;have I4:=q8 i4;have HS:=q8 hS;have HB:=q8 hB;have HXW:=q8 hxw;clear ip iq i0 i2 i3 i4 hS hB hxw j0 j2 j3 j4 kp kq hB1
  gi_wp2
  refine⟨trivial,(CallsIn.inRound l (callsIn_wide.2 (HNOW.out W HXW.out))).mono ?_⟩;rintro e W1 ⟨rfl,rfl⟩
  gi_wp2
  refine⟨trivial,(CallsIn.inRound l (callsIn_wide.2 (HEQ.out W.drew z HXW.out.drew))).mono ?_⟩;rintro e W2 ⟨hx2,⟨rfl,hno⟩|⟨rfl,hyes⟩⟩
  ·have hxx:q9 (fun _=>False) W W2:=((q9.refl (fun _=>False) W).drew).trans hx2;have HXX:=q8 hxx;have HNO:=q8 hno;have r2:W2.heap[w.heap.size+1+1]?=some (.cells #[.int .u64 0,.int .u64 0,.int .u64 0] 197):=(hxx.block _ (z8 I2.out) (fun f=>f)).trans I2.out;have r3:W2.heap[w.heap.size+1+1+1]?=some (.cells #[.bool false] 4):=(hxx.block _ (z8 I3.out) (fun f=>f)).trans I3.out;have l2:=z8 r2;have l3:=z8 r3;have e0:=z6 r2 0;have e1:=z6 r2 1;have e2:=z6 r2 2;have f0:=Q8 r2 0;have f1:=Q8 r2 1;have f2:=Q8 r2 2;have e3:=z6 r3 0;have f3:=Q8 r3 0;have R2:=q8 r2;have R3:=q8 r3;clear hx2 hxx hno r2 r3
   gi_wp2
   have hBW2:Below w.heap.size w W2:=HB.out.trans (zd1 HXX.out HB.out.size);refine⟨?_,⟨rfl,?_,?_,z,by simp,HNO.out⟩,?_⟩
   ·exact(KeepsOthers.of_ext HXX.out).trans (((((KeepsOthers.setCell _ _ _).trans (KeepsOthers.setCell _ _ _)).trans (KeepsOthers.setCell _ _ _)).trans (KeepsOthers.setCell _ _ _)).trans (KeepsOthers.alloc _ _))
   ·rw[heap_alloc_old _ _ (by simpa using l2)];exact(j8 _ _ (by show ¬w.heap.size+2=w.heap.size+1+1+1;omega)).trans (Y4 (Y4 (Y4 R2.out 0 _) 1 _) 2 _)
   ·rw[heap_alloc_old _ _ (by simpa using l3)];refine Y4 ((j8 _ _ (by show ¬w.heap.size+3=w.heap.size+1+1;omega)).trans ((j8 _ _ (by show ¬w.heap.size+3=w.heap.size+1+1;omega)).trans ((j8 _ _ (by show ¬w.heap.size+3=w.heap.size+1+1;omega)).trans R3.out))) 0 _
   ·exact((((hBW2.setCell (p:=⟨w.heap.size+1+1,0,none⟩) (by show w.heap.size<=w.heap.size+1+1;omega) _).setCell (p:=⟨w.heap.size+1+1,1,none⟩) (by show w.heap.size<=w.heap.size+1+1;omega) _).setCell (p:=⟨w.heap.size+1+1,2,none⟩) (by show w.heap.size<=w.heap.size+1+1;omega) _).setCell (p:=⟨w.heap.size+1+1+1,0,none⟩) (by show w.heap.size<=w.heap.size+1+1+1;omega) _).alloc (by simp;exact hBW2.size) _
  ·have hxx:q9 (fun _=>False) W W2:=((q9.refl (fun _=>False) W).drew).trans hx2;have HXX:=q8 hxx;have HYES:=q8 hyes;have r4:W2.heap[w.heap.size+1+1+1+1]?=some (.cells #[.int .u64 mk.a.toNat,.int .u64 mk.b.toNat,.int .u64 mk.c.toNat] 197):=(hxx.block _ (z8 I4.out) (fun f=>f)).trans I4.out;have l4:=z8 r4;have e0:=z6 r4 0;have e1:=z6 r4 1;have e2:=z6 r4 2;have R4:=q8 r4;simp only[M3.val,u64];clear hx2 hxx hyes r4
   gi_wp2
   refine⟨trivial,(CallsIn.inRound l (callsIn_wide.2 (zg9 mk ((X.t.why z.1.1 z.1.2).or (X.t.why z.1.2 z.1.1)) _))).mono ?_⟩;rintro e W3 ⟨rfl,hx3⟩;have hxx3:q9 (fun _=>False) W W3:=HXX.out.trans (((q9.refl (fun _=>False) W2).alloc _).trans hx3);have r4:W3.heap[w.heap.size+1+1+1+1]?=some (.cells #[.int .u64 mk.a.toNat,.int .u64 mk.b.toNat,.int .u64 mk.c.toNat] 197):=(hxx3.block _ (z8 I4.out) (fun f=>f)).trans I4.out;have e0:=z6 r4 0;have e1:=z6 r4 1;have e2:=z6 r4 2;have f0:=Q8 r4 0;have f1:=Q8 r4 1;have f2:=Q8 r4 2;have R4:=q8 r4;have HX3:=q8 hxx3;simp only[M3.val,u64];clear hx3 hxx3 r4
   gi_wp2
   have hBW3:Below w.heap.size w W3:=HB.out.trans (zd1 HX3.out HB.out.size);have hp4:¬p=w.heap.size+4:=by omega
   have hq4:¬q=w.heap.size+4:=by omega
   have keep:∀ k,k<W.heap.size->¬k=w.heap.size+4->(((W3.setCell ⟨w.heap.size+1+1+1+1,0,none⟩ (.int .u64 (mk.or ((X.t.why z.1.1 z.1.2).or (X.t.why z.1.2 z.1.1))).a.toNat)).setCell ⟨w.heap.size+1+1+1+1,1,none⟩ (.int .u64 (mk.or ((X.t.why z.1.1 z.1.2).or (X.t.why z.1.2 z.1.1))).b.toNat)).setCell ⟨w.heap.size+1+1+1+1,2,none⟩ (.int .u64 (mk.or ((X.t.why z.1.1 z.1.2).or (X.t.why z.1.2 z.1.1))).c.toNat)).heap[k]?=W.heap[k]?:=by intro k hk hne;exact(j8 _ _ (by show ¬k=w.heap.size+1+1+1+1;omega)).trans ((j8 _ _ (by show ¬k=w.heap.size+1+1+1+1;omega)).trans ((j8 _ _ (by show ¬k=w.heap.size+1+1+1+1;omega)).trans (HX3.out.block k hk (fun f=>f))))
   refine⟨(KeepsOthers.of_ext HX3.out).trans (((KeepsOthers.setCell _ _ _).trans (KeepsOthers.setCell _ _ _)).trans (KeepsOthers.setCell _ _ _)),⟨keep p (z8 IP.out) hp4,keep q (z8 IQ.out) hq4⟩,⟨(keep p (z8 IP.out) hp4).trans IP.out,(keep q (z8 IQ.out) hq4).trans IQ.out,(keep _ (z8 I0.out) (by omega)).trans I0.out,(keep _ (z8 I2.out) (by omega)).trans I2.out,(keep _ (z8 I3.out) (by omega)).trans I3.out,_,Y4 (Y4 (Y4 R4.out 0 _) 1 _) 2 _,HS.out.snoc HI.out (Nat.le_succ _) HYES.out⟩,?_⟩;exact((hBW3.setCell (p:=⟨w.heap.size+1+1+1+1,0,none⟩) (by show w.heap.size<=w.heap.size+1+1+1+1;omega) _).setCell (p:=⟨w.heap.size+1+1+1+1,1,none⟩) (by show w.heap.size<=w.heap.size+1+1+1+1;omega) _).setCell (p:=⟨w.heap.size+1+1+1+1,2,none⟩) (by show w.heap.size<=w.heap.size+1+1+1+1;omega) _
 case done=>
  rintro D ys W hD rfl ⟨⟨ip,iq,i0,i2,i3,mk,i4,hS⟩,hB⟩ hK;have c0:W.cell? ⟨w.heap.size+1+1+1+1,0,none⟩=some (.int .u64 mk.a.toNat):=z6 i4 0;have c1:W.cell? ⟨w.heap.size+1+1+1+1,1,none⟩=some (.int .u64 mk.b.toNat):=z6 i4 1;have c2:W.cell? ⟨w.heap.size+1+1+1+1,2,none⟩=some (.int .u64 mk.c.toNat):=z6 i4 2;have e0:W.cell? ⟨w.heap.size+1+1,0,none⟩=some (.int .u64 0):=z6 i2 0;have e1:W.cell? ⟨w.heap.size+1+1,1,none⟩=some (.int .u64 0):=z6 i2 1;have e2:W.cell? ⟨w.heap.size+1+1,2,none⟩=some (.int .u64 0):=z6 i2 2;have f0:W.frozen? ⟨w.heap.size+1+1,0,none⟩=false:=Q8 i2 0;have f1:W.frozen? ⟨w.heap.size+1+1,1,none⟩=false:=Q8 i2 1;have f2:W.frozen? ⟨w.heap.size+1+1,2,none⟩=false:=Q8 i2 2;have e3:W.cell? ⟨w.heap.size+1+1+1,0,none⟩=some (.bool false):=z6 i3 0;have f3:W.frozen? ⟨w.heap.size+1+1+1,0,none⟩=false:=Q8 i3 0;have hDw:w.heap.size<=D:=Nat.le_trans hB1.size hD;obtain⟨Wf,hWf⟩:∃ Wf,((((W.setCell ⟨w.heap.size+1+1,0,none⟩ (.int .u64 mk.a.toNat)).setCell ⟨w.heap.size+1+1,1,none⟩ (.int .u64 mk.b.toNat)).setCell ⟨w.heap.size+1+1,2,none⟩ (.int .u64 mk.c.toNat)).setCell ⟨w.heap.size+1+1+1,0,none⟩ (.bool true))=Wf:=⟨_,rfl⟩;have hKf:Wf.heap[D]?=some (.deferred (some [])):=by rw[<- hWf];exact(KeepsOthers.setCell _ _ _).same D _ ((KeepsOthers.setCell _ _ _).same D _ ((KeepsOthers.setCell _ _ _).same D _ ((KeepsOthers.setCell _ _ _).same D _ hK rfl) rfl) rfl) rfl
  have b2:Wf.heap[w.heap.size+1+1]?=some (.cells #[.int .u64 mk.a.toNat,.int .u64 mk.b.toNat,.int .u64 mk.c.toNat] 197):=by rw[<- hWf];exact(j8 _ _ (by show ¬w.heap.size+1+1=w.heap.size+1+1+1;omega)).trans (Y4 (Y4 (Y4 i2 0 _) 1 _) 2 _)
  have b3:Wf.heap[w.heap.size+1+1+1]?=some (.cells #[.bool true] 4):=by rw[<- hWf];exact Y4 ((j8 _ _ (by show ¬w.heap.size+1+1+1=w.heap.size+1+1;omega)).trans ((j8 _ _ (by show ¬w.heap.size+1+1+1=w.heap.size+1+1;omega)).trans ((j8 _ _ (by show ¬w.heap.size+1+1+1=w.heap.size+1+1;omega)).trans i3))) 0 _
  have hBf:Below w.heap.size w Wf:=by rw[<- hWf];exact(((hB.setCell (p:=⟨w.heap.size+1+1,0,none⟩) (by show w.heap.size<=w.heap.size+1+1;omega) _).setCell (p:=⟨w.heap.size+1+1,1,none⟩) (by show w.heap.size<=w.heap.size+1+1;omega) _).setCell (p:=⟨w.heap.size+1+1,2,none⟩) (by show w.heap.size<=w.heap.size+1+1;omega) _).setCell (p:=⟨w.heap.size+1+1+1,0,none⟩) (by show w.heap.size<=w.heap.size+1+1+1;omega) _
  have HWF:=q8 hWf;have g2:=Z8 b2 (grownBy_putObj' Wf D (.deferred none)) (fun r e=>by cases e;exact⟨_,hKf,rfl⟩);have g3:=Z8 b3 (grownBy_putObj' Wf D (.deferred none)) (fun r e=>by cases e;exact⟨_,hKf,rfl⟩);have z0:=z6 g2 0;have z1:=z6 g2 1;have z2:=z6 g2 2;have z3:=z6 g3 0;have G2:=q8 b2;have G3:=q8 b3;clear hWf ip iq i0 i2 i3 i4 b2 b3
  gi_wp2
  rw[HWF.out];refine⟨by simp,.inl ⟨_,_,rfl,run_takeDeferred hKf,?_⟩⟩;refine⟨.tuple #[.agg #[.int .u64 mk.a.toNat,.int .u64 mk.b.toNat,.int .u64 mk.c.toNat],.bool true],?_,mk,true,rfl,hBf.trans (belowK_b (w:=w) (Nat.le_refl _) Wf D _ _ hDw hKf rfl rfl),fun _=>hS,fun e=>by simp at e⟩;simp[results,results274,go_sem,z0,z1,z2,z3]
 case stop=>
  rintro D c pre W hD ⟨k,hk,rfl⟩ ⟨⟨rfl,i2,i3,z,hz,hn⟩,hB⟩ hK;have hDw:w.heap.size<=D:=Nat.le_trans hB1.size hD;have g2:(W.putObj D (.deferred none)).heap[w.heap.size+1+1]?=some (.cells #[.int .u64 0,.int .u64 0,.int .u64 0] 197):=Z8 i2 (grownBy_putObj' W D (.deferred none)) (fun r e=>by cases e;exact⟨_,hK,rfl⟩);have g3:(W.putObj D (.deferred none)).heap[w.heap.size+1+1+1]?=some (.cells #[.bool false] 4):=Z8 i3 (grownBy_putObj' W D (.deferred none)) (fun r e=>by cases e;exact⟨_,hK,rfl⟩);have z0:=z6 g2 0;have z1:=z6 g2 1;have z2:=z6 g2 2;have z3:=z6 g3 0
  gi_wp2
  refine⟨by simp,.inl ⟨_,_,rfl,run_takeDeferred hK,?_⟩⟩;refine⟨.tuple #[.agg #[.int .u64 0,.int .u64 0,.int .u64 0],.bool false],?_,M3.none,false,rfl,hB.trans (belowK_b (w:=w) (Nat.le_refl _) W D _ _ hDw hK rfl rfl),fun e=>by simp at e,fun _=>⟨z,List.mem_of_mem_take hz,hn⟩⟩;simp[results,results274,go_sem,z0,z1,z2,z3]
theorem qP2(h:ThR w hb g c TK AK tw As (TT++[X])){a b:Nat}{x y:Z3}(hx:TK[a]?=some x)(hy:TK[b]?=some y)(hT:TK.length<=12)(hl:TT.length<=500){ar:Nat}{zs:List (PN2 TK.length)}(hP:Prs x y ar zs){far:Int}{V:(Nat->Int)->Prop}{H:Nat->(Nat->Int)->Prop}{K:Nat}(hI:V9 (TK.length+1) far V H K X.t):
  Calls prog 274 #[.pointer (some ⟨hb,0,none⟩),.agg #[.int .i64 a,.int .i64 b]] w fun e w'=>∃ (mk:M3) (same:Bool),e=.returned (.tuple #[.agg #[.int .u64 mk.a.toNat,.int .u64 mk.b.toNat,.int .u64 mk.c.toNat],.bool same])/\q9 (fun _=>False) w w'/\(same=true->SmI X.t V H K zs mk)/\(same=false->∃ z∈zs,¬KE X.t z) :=
 (callsIn_wide.1 (ja6 h hx hy hT hl hP hI)).mono (fun _ _ ⟨mk,same,h1,h2,h3⟩=>⟨mk,same,h1,q9.ofBelow h2,h3⟩)
end
end
section
open Go.RowKit Ar
structure qg2(F:Fx)(TK:List Z3)(tw:List (Nat × Nat)):Prop where
 fn:F.n=TK.length
 ftw:F.tw=tw
 prs:∀ p∈tw,∃ (x y:Z3) (ar:Nat) (zs:List (PN2 TK.length)),TK[p.1]?=some x/\TK[p.2]?=some y/\Prs x y ar zs/\F.prs p=zs.map (·.1)
theorem qg3{tw:List (Nat × Nat)}{k:Nat}{p:Nat × Nat}(h:tw[k]?=some p):(za2 tw)[k*2]?=some (.int .i64 p.1)/\(za2 tw)[k*2+1]?=some (.int .i64 p.2):=by
 have hk:=(List.getElem?_eq_some_iff.1 h).1;have e:tw=tw.take k++p::tw.drop (k+1):=by have e1:=(List.take_append_drop k tw).symm;rw[List.drop_eq_getElem_cons hk,(List.getElem?_eq_some_iff.1 h).2] at e1;exact e1
 have hl:∀ l:List (Nat × Nat),(za2 l).length=l.length*2:=by
  intro l
  induction l with
  | nil=>rfl
  | cons a b ih=>simp only[za2,List.flatMap_cons,List.length_append] at ih ⊢;simp at ih ⊢;omega
 have e2:za2 tw=za2 (tw.take k)++([.int .i64 p.1,.int .i64 p.2]++za2 (tw.drop (k+1))):=by
  conv=>lhs;rw[e]
  simp[za2]
 have hlk:(za2 (tw.take k)).length=k*2:=by rw[hl,List.length_take];congr 1;omega
 rw[e2];refine⟨?_,?_⟩
 ·rw[List.getElem?_append_right (by omega),hlk,Nat.sub_self];rfl
 ·rw[List.getElem?_append_right (by omega),hlk,Nat.add_sub_cancel_left];rfl
section
variable{w:World}{hb g:Nat}{c:ThV}{TK:List Z3}{AK:List PA}{tw:List (Nat × Nat)}{As:List (PA × Bool)}{TT:List W9}{X:W9}{F:Fx}
theorem qp8(h:ThR w hb g c TK AK tw As (TT++[X]))(hF:qg2 F TK tw)(hT:TK.length<=12)(hl:TT.length<=500)(htw:tw.length<=1000)(hI:V9 (F.n+1) F.far F.V (HA (Y8 As)) As.length X.t)(hfar:F.far<=1000000):
  Calls prog 269 #[.pointer (some ⟨hb,0,none⟩)] w (ThC w hb g c TK AK tw As TT X F (fun Y=>Y.news=false->∀ p∈tw,zg3 F Y.t p)):=by
 have kb:=h.blk;obtain⟨wa,wc,hwv⟩:=Q0 h.tw;have hbl:=z8 kb;rw[hwv] at kb;have c2:=z6 kb 2;have H:=q8 h;have HI:=q8 hI;have HF:=q8 hF;have hFn:=hF.fn;clear h kb hI hF;go_enter func269,ntmps269;go_wp2_with fail
 go_loopw [12] (fun i wr=>∃ j:Nat,j<=tw.length/\i=.int .i64 j/\PtW w hb g c TK AK tw As TT X F (fun Y=>Y.news=false->∀ p∈tw.take j,zg3 F Y.t p) wr) (fun i _=>tw.length-(intOf i).toNat)
 case atStart=>exact⟨0,Nat.zero_le _,rfl,X,H.out,q9.refl _ _,Ar.TPost.refl HI.out,fun _ x hx=>by simp at hx⟩
 case round=>
  obtain⟨j,hj,rfl,Y,hR,hx,hP,hQ⟩:=hrel;have HR:=q8 hR;have HX:=q8 hx;have HP:=q8 hP;have HQ:=q8 hQ;by_cases hlt:j<tw.length
  ·obtain⟨⟨a,b⟩,hpj⟩:∃ p,tw[j]?=some p:=⟨_,List.getElem?_eq_getElem hlt⟩;obtain⟨gw,rfl,hgwl⟩:∃ gw,wa=some ⟨gw,0,none⟩/\gw<wr.heap.size:=by
    rcases hR.tw.2 with⟨e,e0⟩|⟨g',cap,cur,hv,_,hh,_⟩
    ·omega
    ·rw[hwv] at hv;simp at hv;exact⟨g',hv.1,z8 hh⟩
   have ho:=hR.tw;rw[hwv] at ho;obtain⟨q0,q1⟩:=qg3 hpj;have x0:=(ho.cellAt (j*2) (by omega)).trans q0;have x1:=(ho.cellAt (j*2+1) (by omega)).trans q1;simp only at x0 x1;have hmem:=List.mem_of_getElem? hpj;obtain⟨x,y,ar,zs,hxa,hyb,hPrs,hprs⟩:=HF.out.prs _ hmem;simp only at hxa hyb;have ha:=(List.getElem?_eq_some_iff.1 hxa).1;have hb':=(List.getElem?_eq_some_iff.1 hyb).1;have hIY:=hP.inv rfl;obtain⟨V,hV⟩:∃ V,wr.alloc (.cells #[.int .i64 a,.int .i64 b] 151)=V:=⟨_,rfl⟩;have hxV:q9 (fun _=>False) wr V:=by rw[<- hV];exact(q9.refl _ wr).alloc _
   have kA:V.heap[wr.heap.size]?=some (.cells #[.int .i64 a,.int .i64 b] 151):=by rw[<- hV];exact heap_alloc_new wr _
   have HSM:=q8 (qP2 (hR.ext hxV (fun _ _ f=>f)) hxa hyb hT hl hPrs (by rw[<- hFn];exact hIY));have HNOW:Hid (∀ W,q9 (fun _=>False) wr W->Calls prog 259 #[.pointer (some ⟨hb,0,none⟩)] W fun e w'=>e=.returned (.pointer (some ⟨g,TT.length*681,none⟩))/\q9 (fun _=>False) wr w'/\w'.heap=W.heap):=by intro W hxw;have:=zg5 (HR.out.ext hxw (fun _ _ f=>f)) (by simp) (by simp;omega);rw[List.length_append,List.length_singleton,Nat.add_sub_cancel] at this;exact this.mono (fun e w' h=>⟨h.1,by rw[h.2];exact hxw.drew,by rw[h.2];rfl⟩)
   obtain⟨C,kg,hTab,hTurn⟩:=HR.out.tab;have HEQ:Hid (∀ (mk:M3),SmI Y.t F.V (HA (Y8 As)) As.length zs mk->∀ W,q9 (fun _=>False) wr W->Calls prog 267 #[.pointer (some ⟨g,TT.length*681,none⟩),.int .i64 a,.int .i64 b,.agg #[.int .u64 mk.a.toNat,.int .u64 mk.b.toNat,.int .u64 mk.c.toNat]] W fun e wp=>∃ Z ok,e=.returned (.bool ok)/\ThR wp hb g c TK AK tw As (TT++[Z])/\q9 (fun k=>k=g) w wp/\Ar.TPost (TK.length+1) F.far F.V (HA (Y8 As)) As.length Y Z ok/\(ok=true->Z.t.by_ a b<=0/\Z.t.by_ b a<=0)):=by
    intro mk hsm W hxw;refine(zK5 ((hxw.block _ (z8 kg) (fun f=>f)).trans kg) hTab (by omega) (by omega) (by omega) (X:=Y) (far:=F.far) (V:=F.V) (H:=HA (Y8 As)) (K:=As.length) (mw:=mk) ?_ hfar hsm.bl ?_).mono ?_
    ·rw[<- hFn];exact hIY
    ·intro v hv hh;have h1:=hv.fn (a,b) (by rw[HF.out.ftw];exact hmem) (fun q hq=>by
      rw[hprs] at hq;obtain⟨z,hz,rfl⟩:=List.mem_map.1 hq;exact hsm.eq v hv hh z hz)
     exact h1
    ·rintro e wp ⟨Z,ok,he,hTP,hPP,hRR⟩;exact⟨Z,ok,he,hTurn wp Z (O0.trans (hxw.mono (fun _ _ f=>f.elim)) (X9.refl _ _) hTP),HX.out.trans ((hxw.mono (fun _ _ f=>f.elim)).trans hTP.1),hPP,hRR⟩
   have HVE:=q8 hV;have HXV:=q8 hxV;have KA:=q8 kA;have HPJ:=q8 hpj;have HPRS:=q8 hprs;obtain⟨m,hm⟩:∃ m,TT.length*681=m:=⟨_,rfl⟩;rw[hm] at HNOW HEQ;clear hR hx hP hQ hpj ho q0 q1 hmem hxa hyb hPrs hprs hIY hV hxV kA kg hTab hTurn hm;go_wp2_with fail;rw[HVE.out];clear HVE;refine HSM.out.mono ?_;rintro e w2 ⟨mk,same,rfl,hx2,hs1,hs2⟩;have HS1:=q8 hs1;have HS2:=q8 hs2;have hxr2:q9 (fun _=>False) wr w2:=HXV.out.trans hx2;have kA2:=(hx2.block _ (z8 KA.out) (fun f=>f)).trans KA.out;clear hx2 hs1 hs2 HSM x0 x1;cases same with
   | false=>
    go_wp2_with fail
    go_region
    go_wp2_with fail
    go_roundw
    case measure=>simp[intOf];omega
    case rel=>
     refine⟨j+1,by omega,by go_num,Y,HR.out.ext ((hxr2.alloc _).drew) (fun _ _ f=>f),HX.out.trans (((hxr2.alloc _).drew).mono (fun _ _ f=>f.elim)),HP.out,fun hn y hy=>?_⟩;rw[List.take_add_one,HPJ.out] at hy;rcases List.mem_append.1 hy with e|e
     ·exact HQ.out hn y e
     ·simp at e;subst e;intro hall;obtain⟨z,hz,hne⟩:=HS2.out (by simp);exact absurd (hall z.1 (by rw[HPRS.out];exact List.mem_map_of_mem hz)) hne
   | true=>
    obtain⟨V2,hV2⟩:∃ V2,w2.alloc (.cells #[.int .u64 mk.a.toNat,.int .u64 mk.b.toNat,.int .u64 mk.c.toNat] 197)=V2:=⟨_,rfl⟩;have hxV2:q9 (fun _=>False) wr V2.drew:=by rw[<- hV2];exact(hxr2.alloc _).drew
    have kM:V2.heap[w2.heap.size]?=some (.cells #[.int .u64 mk.a.toNat,.int .u64 mk.b.toNat,.int .u64 mk.c.toNat] 197):=by rw[<- hV2];exact heap_alloc_new w2 _
    have kT:V2.heap[wr.heap.size]?=some (.cells #[.int .i64 a,.int .i64 b] 151):=by rw[<- hV2,heap_alloc_old _ _ (z8 kA2)];exact kA2
    have u0:=z6 kT 0;have u1:=z6 kT 1;have m0:=z6 kM 0;have m1:=z6 kM 1;have m2:=z6 kM 2;have KM:=q8 kM;have KT:=q8 kT;have HVE2:=q8 hV2;have HEQ2:=q8 (HEQ.out mk (HS1.out rfl));clear kM kT hV2 kA2 HEQ;go_wp2_with fail;rw[HVE2.out];clear HVE2
    go_region_law (go_simp;go_wp2_with (first
     | (go_at_call 259;refine(HNOW.out _ (by assumption)).mono ?_;rintro e wa ⟨rfl,hxa,hha⟩;have ka:wa.heap[w2.heap.size]?=some (.cells #[.int .u64 mk.a.toNat,.int .u64 mk.b.toNat,.int .u64 mk.c.toNat] 197):=(by rw[hha];exact KM.out);have kt:wa.heap[wr.heap.size]?=some (.cells #[.int .i64 a,.int .i64 b] 151):=(by rw[hha];exact KT.out);have va0:=z6 ka 0;have va1:=z6 ka 1;have va2:=z6 ka 2;have vt0:=z6 kt 0;have vt1:=z6 kt 1;clear hha ka kt)
     | (go_at_call 267;refine(HEQ2.out _ (by assumption)).mono ?_;rintro e wp ⟨Z,ok,rfl,hfin⟩;have HFIN:=q8 hfin;clear hfin)
     | fail))
    all_goals
     obtain⟨f1,f2,f3,f4⟩:=HFIN.out;rw[<- hFn] at f3;have F1:=q8 f1;have F2:=q8 f2;have F3:=q8 (HP.out.trans f3);have F5:=q8 f3;have F4:=q8 f4;clear f1 f2 f3 f4 HFIN;cases ok with
     | false=>go_wp2_with fail;go_ret;exact⟨Z,false,rfl,F1.out,F2.out,F3.out,fun e=>by simp at e⟩
     | true=>
      go_wp2_with fail
      go_roundw
      case measure=>simp[intOf];omega
      case rel=>
       refine⟨j+1,by omega,by go_num,Z,F1.out,F2.out,F3.out,fun hn y hy=>?_⟩;rw[List.take_add_one,HPJ.out] at hy;rcases List.mem_append.1 hy with e|e
       ·obtain⟨n1,n2⟩:=F5.out.news hn;rw[n2];exact HQ.out n1 y e
       ·simp at e;subst e;intro _;exact F4.out rfl
  ·have hjl:j=tw.length:=by omega
   subst hjl;clear hR hx hP hQ;go_wp2_with fail;go_ret;exact⟨Y,true,rfl,HR.out,HX.out,HP.out,fun _ hn x hx=>HQ.out hn x (by rw[List.take_length];exact hx)⟩
end
def qc2(TK:List Z3)(f s:Nat):Bool:=match TK[f]?,TK[s]? with
 | some x,some y=>decide (0<y.ar) && decide (y.nm=x.nm/\y.ar=x.ar)
 | _,_=>false
def zf8(TK:List Z3)(s k:Nat):List (Nat × Nat):=((List.range k).filter (fun f=>qc2 TK f s)).map (fun f=>(f,s))
def zt0(TK:List Z3)(k:Nat):List (Nat × Nat):=(List.range k).flatMap (fun s=>zf8 TK s s)
def zQ0(TK:List Z3):List (Nat × Nat):=zt0 TK TK.length
theorem qu8(TK:List Z3)(s:Nat):zf8 TK s 0=[]:=rfl
theorem zq1(TK:List Z3)(s k:Nat):zf8 TK s (k+1)=if qc2 TK k s=true then zf8 TK s k++[(k,s)] else zf8 TK s k:=by
 unfold zf8;rw[List.range_succ,List.filter_append,List.map_append];split
 ·rename_i h;simp[h]
 ·rename_i h;simp[h]
theorem zX1(TK:List Z3):zt0 TK 0=[]:=rfl
theorem zX2(TK:List Z3)(k:Nat):zt0 TK (k+1)=zt0 TK k++zf8 TK k k:=by unfold zt0;rw[List.range_succ,List.flatMap_append];simp
theorem zX3(TK:List Z3)(s k:Nat):(zf8 TK s k).length<=k:=by unfold zf8;rw[List.length_map];exact Nat.le_trans (List.length_filter_le _ _) (by simp)
theorem zQ1(TK:List Z3):∀ k,(zt0 TK k).length<=k*k
 | 0=>by simp[zX1]
 | k+1=>by
  have h1:=zQ1 TK k;have h2:=zX3 TK k k;rw[zX2,List.length_append];have:(k+1)*(k+1)=k*k+k+(k+1):=by rw[Nat.add_mul,Nat.mul_add];omega
  omega
theorem zX4{TK:List Z3}{s k:Nat}{p:Nat × Nat}:p∈zf8 TK s k↔p.2=s/\p.1<k/\qc2 TK p.1 s=true:=by
 obtain⟨a,b⟩:=p;simp only[zf8,List.mem_map,List.mem_filter,List.mem_range,Prod.mk.injEq];constructor
 ·rintro⟨f,⟨h1,h2⟩,rfl,rfl⟩;exact⟨rfl,h1,h2⟩
 ·rintro⟨rfl,h1,h2⟩;exact⟨a,⟨h1,h2⟩,rfl,rfl⟩
theorem qc3{TK:List Z3}{p:Nat × Nat}:p∈zQ0 TK↔p.1<p.2/\qc2 TK p.1 p.2=true:=by
 unfold zQ0 zt0;rw[List.mem_flatMap];constructor
 ·rintro⟨s,_,hs⟩;obtain⟨rfl,h1,h2⟩:=zX4.1 hs;exact⟨h1,h2⟩
 ·rintro⟨h1,h2⟩;refine⟨p.2,?_,zX4.2 ⟨rfl,h1,h2⟩⟩;rw[List.mem_range];unfold qc2 at h2;split at h2
  ·rename_i x y e1 e2;exact(List.getElem?_eq_some_iff.1 e2).1
  ·simp at h2
theorem ql9{TK:List Z3}{f s:Nat}{x y:Z3}(hx:TK[f]?=some x)(hy:TK[s]?=some y):qc2 TK f s=true↔0<y.ar/\y.nm=x.nm/\y.ar=x.ar:=by unfold qc2;rw[hx,hy];simp
theorem qc4{TK:List Z3}{f s:Nat}(h:qc2 TK f s=true):∃ x y,TK[f]?=some x/\TK[s]?=some y/\0<y.ar/\y.nm=x.nm/\y.ar=x.ar:=by
 unfold qc2 at h;split at h
 ·rename_i x y e1 e2;simp at h;exact⟨x,y,e1,e2,h⟩
 ·simp at h
def numOf(TK:List Z3)(i:Nat):Option Int:=match TK[i]? with
 | some x=>if x.nm=⟨#[]⟩ then some x.v else none
 | none=>none
def zt1(TK:List Z3)(p:Nat × Nat):List (Nat × Nat):=match TK[p.1]?,TK[p.2]? with
 | some x,some y=>(((zf7 x).zip (zf7 y)).take x.ar.toNat).map (fun z=>(z.1.toNat,z.2.toNat))
 | _,_=>[]
def grT(TK:List Z3)(m:Int):Int:=TK.foldl (fun m x=>max m (max x.v (-x.v))) m
def grA(AK:List PA)(m:Int):Int:=AK.foldl (fun m x=>max m (max x.b (-x.b))) m
def ze6(TK:List Z3)(AK:List PA):Int:=TK.length*(grA AK (grT TK 0)+1)
def zi3(TK:List Z3)(AK:List PA):Fx:=⟨TK.length,numOf TK,zQ0 TK,zt1 TK,ze6 TK AK⟩
theorem zQ2{α:Type}(f:α->Int)(B:Int):∀ (l:List α) (m:Int),m<=B->(∀ x∈l,f x<=B)->m<=l.foldl (fun m x=>max m (f x)) m/\l.foldl (fun m x=>max m (f x)) m<=B/\∀ x∈l,f x<=l.foldl (fun m x=>max m (f x)) m
 | [],m,hm,_=>⟨by simp,by simpa using hm,by simp⟩
 | a::l,m,hm,h=>by
  have ha:=h a (by simp);obtain⟨h1,h2,h3⟩:=zQ2 f B l (max m (f a)) (by omega) (fun x hx=>h x (by simp[hx]));simp only[List.foldl_cons];refine⟨by omega,h2,fun x hx=>?_⟩;rcases List.mem_cons.1 hx with e|e
  ·subst e;omega
  ·exact h3 x e
theorem zQ3{TK:List Z3}{m B:Int}(hm:m<=B)(h:∀ x∈TK,-B<=x.v/\x.v<=B):m<=grT TK m/\grT TK m<=B/\∀ x∈TK,x.v<=grT TK m /\ -(grT TK m)<=x.v:=by obtain⟨h1,h2,h3⟩:=zQ2 (fun x:Z3=>max x.v (-x.v)) B TK m hm (fun x hx=>by have:=h x hx;omega);refine⟨h1,h2,fun x hx=>?_⟩;have h4:=h3 x hx;unfold grT;omega
theorem qc5{AK:List PA}{m B:Int}(hm:m<=B)(h:∀ x∈AK,-B<=x.b/\x.b<=B):m<=grA AK m/\grA AK m<=B/\∀ x∈AK,x.b<=grA AK m /\ -(grA AK m)<=x.b:=by obtain⟨h1,h2,h3⟩:=zQ2 (fun x:PA=>max x.b (-x.b)) B AK m hm (fun x hx=>by have:=h x hx;omega);refine⟨h1,h2,fun x hx=>?_⟩;have h4:=h3 x hx;unfold grA;omega
structure KOk(TK:List Z3)(AK:List PA):Prop where
 ar:∀ x∈TK,0<=x.ar/\x.ar<=3
 arg:∀ x∈TK,∀ (k:Nat) (a:Int),(k:Int)<x.ar->(zf7 x)[k]?=some a->0<=a/\a<TK.length
 v:∀ x∈TK,-1000<=x.v/\x.v<=1000
 at_:∀ x∈AK,x.at_.Ok/\x.i<TK.length/\x.j<TK.length
 b:∀ x∈AK,-1000<=x.b/\x.b<=1000
section
variable{TK:List Z3}{AK:List PA}
theorem KOk.far(h:KOk TK AK)(hT:TK.length<=12):0<=ze6 TK AK/\ze6 TK AK<=12012/\ze6 TK AK=TK.length*(grA AK (grT TK 0)+1)/\0<=grA AK (grT TK 0):=by
 obtain⟨h1,h2,_⟩:=zQ3 (m:=0) (B:=1000) (by omega) h.v;obtain⟨h3,h4,_⟩:=qc5 (m:=grT TK 0) (B:=1000) (by omega) h.b;refine⟨?_,?_,rfl,by omega⟩
 ·unfold ze6;exact Int.mul_nonneg (by omega) (by omega)
 ·unfold ze6;have:(TK.length:Int)*(grA AK (grT TK 0)+1)<=12*1001:=Int.mul_le_mul (by omega) (by omega) (by omega) (by omega);omega
theorem zX6(x:Z3):(zf7 x).length=3:=rfl
theorem zQ4{p:Nat × Nat}{x y:Z3}(hx:TK[p.1]?=some x)(hy:TK[p.2]?=some y):zt1 TK p=(((zf7 x).zip (zf7 y)).take x.ar.toNat).map (fun z=>(z.1.toNat,z.2.toNat)):=by unfold zt1;rw[hx,hy]
theorem zF1{p:Nat × Nat}{x y:Z3}(hx:TK[p.1]?=some x)(hy:TK[p.2]?=some y){k:Nat}{q:Nat × Nat}(hq:(zt1 TK p)[k]?=some q):(k:Int)<x.ar/\∃ a b,(zf7 x)[k]?=some a/\(zf7 y)[k]?=some b/\q=(a.toNat,b.toNat):=by
 rw[zQ4 hx hy,List.getElem?_map] at hq;cases e:(((zf7 x).zip (zf7 y)).take x.ar.toNat)[k]? with
 | none=>rw[e] at hq;simp at hq
 | some z=>rw[e] at hq;simp at hq;obtain⟨hk,e⟩:=U8 e;rw[List.getElem?_zip_eq_some] at e;exact⟨by omega,z.1,z.2,e.1,e.2,hq.symm⟩
theorem KOk.prs(h:KOk TK AK){p:Nat × Nat}{x y:Z3}(hx:TK[p.1]?=some x)(hy:TK[p.2]?=some y)(har:y.ar=x.ar):∃ zs:List (PN2 TK.length),Prs x y x.ar.toNat zs/\zt1 TK p=zs.map (·.1):=by
 have hxm:=List.mem_of_getElem? hx;have hym:=List.mem_of_getElem? hy;have hb:∀ q∈zt1 TK p,q.1<TK.length/\q.2<TK.length:=by intro q hq;obtain⟨k,hk⟩:=List.getElem?_of_mem hq;obtain⟨h1,a,b,h2,h3,rfl⟩:=zF1 hx hy hk;have ha:=h.arg x hxm k a h1 h2;have hb:=h.arg y hym k b (by omega) h3;show a.toNat<_/\b.toNat<_;omega
 refine⟨(zt1 TK p).pmap Subtype.mk hb,⟨?_,?_,?_,?_⟩,?_⟩
 ·have:=(h.ar x hxm).1;omega
 ·have:=(h.ar x hxm).2;omega
 ·rw[List.length_pmap,zQ4 hx hy,List.length_map,List.length_take,List.length_zip,zX6,zX6];have:=h.ar x hxm;omega
 ·intro k z hz;rw[List.getElem?_pmap] at hz;cases e:(zt1 TK p)[k]? with
  | none=>simp[e] at hz
  | some q=>
   simp[e] at hz;subst hz;obtain⟨h1,a,b,h2,h3,rfl⟩:=zF1 hx hy e;have ha:=h.arg x hxm k a h1 h2;have hb:=h.arg y hym k b (by omega) h3;refine⟨h2.trans (congrArg some ?_),h3.trans (congrArg some ?_)⟩
   ·show a=((a.toNat:Nat):Int);omega
   ·show b=((b.toNat:Nat):Int);omega
 ·rw[List.map_pmap];simp
theorem KOk.fx(h:KOk TK AK):qg2 (zi3 TK AK) TK (zQ0 TK):=by refine⟨rfl,rfl,fun p hp=>?_⟩;obtain⟨h1,h2⟩:=qc3.1 hp;obtain⟨x,y,hx,hy,h3,h4,h5⟩:=qc4 h2;obtain⟨zs,h6,h7⟩:=h.prs hx hy h5;exact⟨x,y,_,zs,hx,hy,h6,h7⟩
theorem KOk.fok(h:KOk TK AK):(zi3 TK AK).Ok:=by intro p hp;obtain⟨h1,h2⟩:=qc3.1 hp;obtain⟨x,y,hx,hy,h3,h4,h5⟩:=qc4 h2;obtain⟨zs,h6,h7⟩:=h.prs hx hy h5;refine⟨⟨(List.getElem?_eq_some_iff.1 hx).1,(List.getElem?_eq_some_iff.1 hy).1⟩,fun q hq=>?_⟩;have hq':q∈zt1 TK p:=hq;rw[h7] at hq';obtain⟨z,_,rfl⟩:=List.mem_map.1 hq';exact z.2
end
theorem qn0(n:Int)(h:-1000000<=n/\n<=1000000)(w:World):Calls prog 138 #[.int .i64 n] w fun e w'=>e=.returned (.int .i64 (max n (-n)))/\w' = w:=by go_enter func138,ntmps138;go_wp2_with fail;go_ret;exact⟨by go_num,rfl⟩
theorem qY1{TK:List Z3}{k:Nat}{x:Z3}(h:TK[k]?=some x)(m:Int):grT (TK.take (k+1)) m=max (grT (TK.take k) m) (max x.v (-x.v)):=by
 unfold grT;rw[List.take_add_one,h,List.foldl_append]
 rfl
theorem qY2{AK:List PA}{k:Nat}{x:PA}(h:AK[k]?=some x)(m:Int):grA (AK.take (k+1)) m=max (grA (AK.take k) m) (max x.b (-x.b)):=by
 unfold grA;rw[List.take_add_one,h,List.foldl_append]
 rfl
section
variable{w:World}{TK:List Z3}{AK:List PA}{tv av:Value}
theorem qM0(hts:w.ownsRow 0 145 6 tv TK.length (TK.flatMap Z3.cells))(hat:w.ownsRow 0 153 4 av AK.length (AK.flatMap PA.cells))(hT:TK.length<=12)(hA:AK.length<=16)(hv:∀ x∈TK,-1000<=x.v/\x.v<=1000)(hb:∀ x∈AK,-1000<=x.b/\x.b<=1000):
  Calls prog 98 #[tv,av] w fun e w'=>e=.returned (.int .i64 (ze6 TK AK))/\q9 (fun _=>False) w w':=by
 obtain⟨ta,tc,rfl⟩:=Q0 hts;obtain⟨aa,ac,rfl⟩:=Q0 hat;have HT:=q8 hts;have HA:=q8 hat;have HV:=q8 hv;have HB:=q8 hb;clear hts hat hv hb;go_enter func98,ntmps98;go_wp2_with fail
 go_loopw [5,12] (fun m i wr=>∃ j:Nat,j<=TK.length/\i=.int .i64 j/\m=.int .i64 (grT (TK.take j) 0)/\q9 (fun _=>False) w wr) (fun _ i _=>TK.length-(intOf i).toNat)
 case atStart=>exact⟨0,Nat.zero_le _,rfl,rfl,q9.refl _ _⟩
 case round=>
  obtain⟨j,hj,rfl,rfl,hx⟩:=hrel;have HX:=q8 hx;clear hx;obtain⟨t1,t2,_⟩:=zQ3 (TK:=TK.take j) (m:=0) (B:=1000) (by omega) (fun x hx=>HV.out x (List.mem_of_mem_take hx));by_cases hlt:j<TK.length
  ·obtain⟨x,hxj⟩:∃ x,TK[j]?=some x:=⟨_,List.getElem?_eq_getElem hlt⟩;obtain⟨gt,rfl,hgl⟩:∃ gt,ta=some ⟨gt,0,none⟩/\gt<w.heap.size:=by
    rcases HT.out.2 with⟨e,e0⟩|⟨g',cap,cur,hv,_,hh,_⟩
    ·omega
    ·simp at hv;exact⟨g',hv.1,z8 hh⟩
   have ho:=z7 HT.out HX.out (fun _ _ f=>f);have x0:wr.cell? ⟨gt,j*6,none⟩=some (.string x.nm):=(ho.cellAt (j*6) (by omega)).trans (J6 hxj (j:=0) rfl);have x1:wr.cell? ⟨gt,j*6+1,none⟩=some (.int .i64 x.ar):=(ho.cellAt (j*6+1) (by omega)).trans (J6 hxj rfl);have x2:wr.cell? ⟨gt,j*6+2,none⟩=some (.int .i64 x.a0):=(ho.cellAt (j*6+2) (by omega)).trans (J6 hxj rfl);have x3:wr.cell? ⟨gt,j*6+3,none⟩=some (.int .i64 x.a1):=(ho.cellAt (j*6+3) (by omega)).trans (J6 hxj rfl);have x4:wr.cell? ⟨gt,j*6+4,none⟩=some (.int .i64 x.a2):=(ho.cellAt (j*6+4) (by omega)).trans (J6 hxj rfl);have x5:wr.cell? ⟨gt,j*6+5,none⟩=some (.int .i64 x.v):=(ho.cellAt (j*6+5) (by omega)).trans (J6 hxj rfl);have hxv:=HV.out x (List.mem_of_getElem? hxj);have HN:=q8 (qY1 hxj 0);have HS:=q8 (qn0 x.v (by omega));clear ho hxj;go_wp2_with fail;refine(HS.out _).mono ?_;rintro e w2 ⟨rfl,rfl⟩;go_wp2_with fail
   go_roundw
   case measure=>simp[intOf];omega
   case rel=>exact⟨j+1,by omega,by go_num,by rw[HN.out],HX.out.alloc _⟩
  ·have hjk:j=TK.length:=by omega
   subst hjk;rw[List.take_length];rw[List.take_length] at t1 t2;obtain⟨m0,hm0⟩:∃ m0,grT TK 0=m0:=⟨_,rfl⟩;rw[hm0] at t1 t2;rw[hm0];go_wp2_with fail
   go_loopw [5,24] (fun m i wr=>∃ j:Nat,j<=AK.length/\i=.int .i64 j/\m=.int .i64 (grA (AK.take j) m0)/\q9 (fun _=>False) w wr) (fun _ i _=>AK.length-(intOf i).toNat)
   case atStart=>exact⟨0,Nat.zero_le _,rfl,rfl,HX.out⟩
   case round=>
    obtain⟨j,hj,rfl,rfl,hx⟩:=hrel;have HX2:=q8 hx;clear hx;obtain⟨s1,s2,_⟩:=qc5 (AK:=AK.take j) (m:=m0) (B:=1000) (by omega) (fun x hx=>HB.out x (List.mem_of_mem_take hx));by_cases hlt:j<AK.length
    ·obtain⟨x,hxj⟩:∃ x,AK[j]?=some x:=⟨_,List.getElem?_eq_getElem hlt⟩;obtain⟨gt,rfl,hgl⟩:∃ gt,aa=some ⟨gt,0,none⟩/\gt<w.heap.size:=by
      rcases HA.out.2 with⟨e,e0⟩|⟨g',cap,cur,hv,_,hh,_⟩
      ·omega
      ·simp at hv;exact⟨g',hv.1,z8 hh⟩
     have ho:=z7 HA.out HX2.out (fun _ _ f=>f);have x0:wr.cell? ⟨gt,j*4,none⟩=some (.string x.wd):=(ho.cellAt (j*4) (by omega)).trans (zg8 hxj (j:=0) rfl);have x1:wr.cell? ⟨gt,j*4+1,none⟩=some (.int .i64 x.i):=(ho.cellAt (j*4+1) (by omega)).trans (zg8 hxj rfl);have x2:wr.cell? ⟨gt,j*4+2,none⟩=some (.int .i64 x.j):=(ho.cellAt (j*4+2) (by omega)).trans (zg8 hxj rfl);have x3:wr.cell? ⟨gt,j*4+3,none⟩=some (.int .i64 x.b):=(ho.cellAt (j*4+3) (by omega)).trans (zg8 hxj rfl);have hxv:=HB.out x (List.mem_of_getElem? hxj);have HN:=q8 (qY2 hxj m0);have HS:=q8 (qn0 x.b (by omega));clear ho hxj;go_wp2_with fail;refine(HS.out _).mono ?_;rintro e w2 ⟨rfl,rfl⟩;go_wp2_with fail
     go_roundw
     case measure=>simp[intOf];omega
     case rel=>exact⟨j+1,by omega,by go_num,by rw[HN.out],HX2.out.alloc _⟩
    ·have hjk:j=AK.length:=by omega
     subst hjk;rw[List.take_length];rw[List.take_length] at s1 s2;have hfar:ze6 TK AK=(TK.length:Int)*(grA AK m0+1):=by unfold ze6;rw[hm0]
     obtain⟨m1,hm1⟩:∃ m1,grA AK m0=m1:=⟨_,rfl⟩;rw[hm1] at s1 s2 hfar;have HFAR:=q8 hfar;rw[hm1];have hp1:(0:Int)<=(TK.length:Int)*(m1+1):=Int.mul_nonneg (by omega) (by omega);have hp2:(TK.length:Int)*(m1+1)<=12*1001:=Int.mul_le_mul (by omega) (by omega) (by omega) (by omega);clear hfar hm1;go_wp2_with fail;go_ret;exact⟨by rw[HFAR.out];go_num,HX2.out⟩
end
end
section
open Go.RowKit Ar
attribute [local go_sem] Oper.semAt_some
theorem x9{w:World}{o:Obj}{k:Nat}(h:k=w.heap.size):(w.alloc o).heap[k]?=some o:=by subst h;exact heap_alloc_new w o
def GE(T:Tb){m:Nat}(z:PN2 m):Prop:=T.by_ z.1.1 m=T.by_ z.1.2 m
structure ChI{m:Nat}(T:Tb)(pre:List (PN2 m))(i j:Nat)(s:Bool):Prop where
 ge:∀ z∈pre,GE T z
 yes:s=true->∃ z∈pre,z.1=(i,j)/\¬KE T z
 no:s=false->∀ z∈pre,KE T z
theorem ChI.nil{m:Nat}(T:Tb):ChI (m:=m) T [] 0 0 false:=⟨fun _ h=>by simp at h,fun h=>by simp at h,fun _ _ h=>by simp at h⟩
theorem zy5{α:Type}{l:List α}{x:α}{P:α->Prop}(h:∀ z∈l,P z)(hx:P x):∀ z∈l++[x],P z:=fun z hz=>by
 rcases List.mem_append.1 hz with e|e
 ·exact h z e
 ·simp at e;subst e;exact hx
theorem ChI.kept{m:Nat}{T:Tb}{pre:List (PN2 m)}{i j:Nat}(h:ChI T pre i j true){z:PN2 m}(hz:GE T z):ChI T (pre++[z]) i j true :=
 ⟨zy5 h.ge hz,fun _=>by obtain⟨u,h1,h2⟩:=h.yes rfl;exact⟨u,List.mem_append_left _ h1,h2⟩,fun e=>by simp at e⟩
theorem ChI.eq{m:Nat}{T:Tb}{pre:List (PN2 m)}{i j:Nat}(h:ChI T pre i j false){z:PN2 m}(hz:GE T z)(hk:KE T z):ChI T (pre++[z]) i j false :=
 ⟨zy5 h.ge hz,fun e=>by simp at e,fun _=>zy5 (h.no rfl) hk⟩
theorem ChI.new{m:Nat}{T:Tb}{pre:List (PN2 m)}{i j:Nat}(h:ChI T pre i j false){z:PN2 m}(hz:GE T z)(hk:¬KE T z):ChI T (pre++[z]) z.1.1 z.1.2 true :=
 ⟨zy5 h.ge hz,fun _=>⟨z,by simp,rfl,hk⟩,fun e=>by simp at e⟩
section
variable{w:World}{hb g:Nat}{c:ThV}{TK:List Z3}{AK:List PA}{tw:List (Nat × Nat)}{As:List (PA × Bool)}{TT:List W9}{X:W9}{F:Fx}
theorem qE5(h:ThR w hb g c TK AK tw As (TT++[X])){a b:Nat}{x y:Z3}(hx:TK[a]?=some x)(hy:TK[b]?=some y)(hT:TK.length<=12)(hl:TT.length<=500){ar:Nat}{zs:List (PN2 TK.length)}(hP:Prs x y ar zs):
  CallsIn Fence.wide 5 prog 265 #[.pointer (some ⟨hb,0,none⟩),.agg #[.int .i64 a,.int .i64 b]] w fun e w'=>∃ (i j:Nat) (s:Bool),e=.returned (.tuple #[.int .i64 i,.int .i64 j,.bool s])/\Below w.heap.size w w'/\(s=true->∃ z∈zs,z.1=(i,j)/\GE X.t z/\¬KE X.t z)/\(s=false->(∃ z∈zs,¬GE X.t z)\/∀ z∈zs,KE X.t z):=by
 have HH:=q8 h;have HP:=q8 hP;have HARG:Hid (∀ W,q9 (fun _=>False) w W->Calls prog 271 #[.pointer (some ⟨hb,0,none⟩),.agg #[.int .i64 a,.int .i64 b]] W fun e w'=>∃ p q,e=.returned (.func (.func 275) #[] #[.pointer (some ⟨p,0,none⟩),.pointer (some ⟨q,0,none⟩)])/\W.heap.size<=p/\W.heap.size<=q/\q9 (fun _=>False) W w'/\w'.heap[p]?=some (.cells (ze2 x) 145)/\w'.heap[q]?=some (.cells (ze2 y) 145)) :=
  fun W hxw=>qg1 (h.ext hxw (fun _ _ f=>f)) hx hy
 have HNOW:Hid (∀ W,q9 (fun _=>False) w W->Calls prog 259 #[.pointer (some ⟨hb,0,none⟩)] W fun e w'=>e=.returned (.pointer (some ⟨g,TT.length*681,none⟩))/\w' = W.drew):=by intro W hxw;have:=zg5 (h.ext hxw (fun _ _ f=>f)) (by simp) (by simp;omega);rw[List.length_append,List.length_singleton,Nat.add_sub_cancel] at this;exact this
 have HGR:Hid (∀ (i:Nat) (W:World),i<TK.length->q9 (fun _=>False) w W->W.heap[w.heap.size]?=some (.cells #[.pointer (some ⟨hb,0,none⟩)] 139)->Calls prog 262 #[.pointer (some ⟨hb,0,none⟩),.int .i64 i] W fun e w'=>e=.returned (.int .i64 (X.t.by_ i TK.length))/\q9 (fun _=>False) w w'/\w'.heap[w.heap.size]?=some (.cells #[.pointer (some ⟨hb,0,none⟩)] 139)/\q9 (fun _=>False) W w') :=
  fun i W hi hxw hk=>(zj3 (h.ext hxw (fun _ _ f=>f)) hT hl (Nat.le_of_lt hi)).mono (fun _ _ h=>⟨h.1,hxw.trans h.2,(h.2.block _ (z8 hk) (fun f=>f)).trans hk,h.2⟩)
 obtain⟨C,kg,hTab,_⟩:=h.tab;have HEQ:Hid (∀ (W:World) (z:PN2 TK.length),q9 (fun _=>False) w W->Calls prog 272 #[.pointer (some ⟨g,TT.length*681,none⟩),.int .i64 z.1.1,.int .i64 z.1.2] W fun e w'=>q9 (fun _=>False) W w'/\∃ (mk:M3) (same:Bool),e=.returned (.tuple #[.agg #[.int .u64 mk.a.toNat,.int .u64 mk.b.toNat,.int .u64 mk.c.toNat],.bool same])/\(same=true↔KE X.t z)) :=
  fun W z hxw=>(zT1 ((hxw.block _ (z8 kg) (fun f=>f)).trans kg) hTab (by have:=z.2.1;omega) (by have:=z.2.2;omega)).mono (fun e w' h=>⟨h.1,by
   rcases h.2 with⟨h1,h2⟩|⟨h1,h2⟩
   ·exact⟨M3.none,false,h1,by simp;exact h2⟩
   ·exact⟨_,true,h1,by simp;exact h2⟩⟩)
 obtain⟨off,hoff⟩:∃ off,TT.length*681=off:=⟨_,rfl⟩;rw[hoff] at HNOW HEQ;obtain⟨W0,hW0⟩:∃ W0,((((((((w.alloc (Obj.cells #[.pointer (some ⟨hb,0,none⟩)] 139)).alloc (Obj.cells #[.int .i64 a,.int .i64 b] 151)).alloc (Obj.cells #[.int .i64 0] 3)).alloc (Obj.cells #[.int .i64 0] 3)).alloc (Obj.cells #[.bool false] 4)).alloc (Obj.cells #[.int .i64 0] 3)).alloc (Obj.cells #[.int .i64 0] 3)).alloc (Obj.cells #[.bool false] 4))=W0:=⟨_,rfl⟩;have hxW0:q9 (fun _=>False) w W0:=by rw[<- hW0];exact((((((((q9.refl _ w).alloc _).alloc _).alloc _).alloc _).alloc _).alloc _).alloc _).alloc _
 have hsz0:W0.heap.size=w.heap.size+8:=by rw[<- hW0];simp
 have k0:W0.heap[w.heap.size]?=some (.cells #[.pointer (some ⟨hb,0,none⟩)] 139):=by rw[<- hW0,heap_alloc_old _ _ (by simp;omega),heap_alloc_old _ _ (by simp;omega),heap_alloc_old _ _ (by simp;omega),heap_alloc_old _ _ (by simp;omega),heap_alloc_old _ _ (by simp;omega),heap_alloc_old _ _ (by simp;omega),heap_alloc_old _ _ (by simp)];exact x9 (by simp)
 have k2:W0.heap[w.heap.size+2]?=some (.cells #[.int .i64 0] 3):=by rw[<- hW0,heap_alloc_old _ _ (by simp),heap_alloc_old _ _ (by simp),heap_alloc_old _ _ (by simp),heap_alloc_old _ _ (by simp),heap_alloc_old _ _ (by simp)];exact x9 (by simp)
 have k3:W0.heap[w.heap.size+3]?=some (.cells #[.int .i64 0] 3):=by rw[<- hW0,heap_alloc_old _ _ (by simp),heap_alloc_old _ _ (by simp),heap_alloc_old _ _ (by simp),heap_alloc_old _ _ (by simp)];exact x9 (by simp)
 have k4:W0.heap[w.heap.size+4]?=some (.cells #[.bool false] 4):=by rw[<- hW0,heap_alloc_old _ _ (by simp),heap_alloc_old _ _ (by simp),heap_alloc_old _ _ (by simp)];exact x9 (by simp)
 have k5:W0.heap[w.heap.size+5]?=some (.cells #[.int .i64 0] 3):=by rw[<- hW0,heap_alloc_old _ _ (by simp),heap_alloc_old _ _ (by simp)];exact x9 (by simp)
 have k6:W0.heap[w.heap.size+6]?=some (.cells #[.int .i64 0] 3):=by rw[<- hW0,heap_alloc_old _ _ (by simp)];exact x9 (by simp)
 have k7:W0.heap[w.heap.size+7]?=some (.cells #[.bool false] 4):=by rw[<- hW0];exact x9 (by simp)
 have HWE:=q8 hW0;clear h hx hy hP kg hTab hW0 hoff;refine callsIn_of_wp_marks func265 rfl trivial ?_ rfl;simp only[ntmps265,List.size_toArray,List.length_cons,List.length_nil,Nat.reduceAdd,Nat.reduceSub,Array.replicate_succ,Array.replicate_zero,List.push_toArray,List.append_toArray,List.nil_append,List.cons_append]
 gi_wp2
 rw[HWE.out];clear HWE;refine⟨trivial,(callsIn_wide.2 (HARG.out W0 hxW0)).mono ?_⟩;rintro e w1 ⟨p,q,rfl,hp,hq,hx1,kp,kq⟩;have j0:=(hx1.block _ (z8 k0) (fun f=>f)).trans k0;have j2:=(hx1.block _ (z8 k2) (fun f=>f)).trans k2;have j3:=(hx1.block _ (z8 k3) (fun f=>f)).trans k3;have j4:=(hx1.block _ (z8 k4) (fun f=>f)).trans k4;have j5:=(hx1.block _ (z8 k5) (fun f=>f)).trans k5;have j6:=(hx1.block _ (z8 k6) (fun f=>f)).trans k6;have j7:=(hx1.block _ (z8 k7) (fun f=>f)).trans k7;have hB1:Below w.heap.size w w1:=(hxW0.trans hx1).toBelow;clear k0 k2 k3 k4 k5 k6 k7 HARG
 gi_wp2
 refine wpIn_rangeFunc_ownF (F:=Fence.wide) (n:=5) rfl (by omega) (gf:=275) (lb:=#[.pointer (some ⟨p,0,none⟩),.pointer (some ⟨q,0,none⟩)]) rfl trivial (enters_of func275 (by kernel_rfl) rfl)
  (zK8 HP.out kp kq 4 (by omega)) jk5 (jk6 (z8 kp) (z8 kq)) (Below.refl _ _) (fun _=>rfl)
  (fun pre W=>(W.heap[p]?=some (.cells (ze2 x) 145)/\W.heap[q]?=some (.cells (ze2 y) 145)/\W.heap[w.heap.size]?=some (.cells #[.pointer (some ⟨hb,0,none⟩)] 139)/\W.heap[w.heap.size+2]?=some (.cells #[.int .i64 0] 3)/\W.heap[w.heap.size+3]?=some (.cells #[.int .i64 0] 3)/\W.heap[w.heap.size+4]?=some (.cells #[.bool false] 4)/\∃ (i j:Nat) (s:Bool),W.heap[w.heap.size+5]?=some (.cells #[.int .i64 i] 3)/\W.heap[w.heap.size+6]?=some (.cells #[.int .i64 j] 3)/\W.heap[w.heap.size+7]?=some (.cells #[.bool s] 4)/\ChI X.t pre i j s)/\Below w.heap.size w W)
  (fun c pre W=>(c=.ret/\W.heap[w.heap.size+2]?=some (.cells #[.int .i64 0] 3)/\W.heap[w.heap.size+3]?=some (.cells #[.int .i64 0] 3)/\W.heap[w.heap.size+4]?=some (.cells #[.bool false] 4)/\∃ z∈pre,¬GE X.t z)/\Below w.heap.size w W)
  (OwnFrom.and (Own.from (fun s A B row hs hg hr=>by obtain⟨hp1,hq1,h0,h2,h3,h4,i,j,s,h5,h6,h7,h8⟩:=hs;exact⟨Z8 hp1 hg hr,Z8 hq1 hg hr,Z8 h0 hg hr,Z8 h2 hg hr,Z8 h3 hg hr,Z8 h4 hg hr,i,j,s,Z8 h5 hg hr,Z8 h6 hg hr,Z8 h7 hg hr,h8⟩) _) (ownFrom_below (Nat.le_refl _) (hB1.size)))
  (fun c=>OwnFrom.and (Own.from (fun s A B row hs hg hr=>by obtain⟨h1,h2,h3,h4,h5⟩:=hs;exact⟨h1,Z8 h2 hg hr,Z8 h3 hg hr,Z8 h4 hg hr,h5⟩) _) (ownFrom_below (Nat.le_refl _) (hB1.size)))
  ⟨⟨kp,kq,j0,j2,j3,j4,0,0,false,j5,j6,j7,ChI.nil _⟩,hB1⟩
  (fun z => { tmps:=#[.pointer (some ⟨hb,0,none⟩),.agg #[.int .i64 a,.int .i64 b],.pointer (some ⟨w.heap.size,0,none⟩),.pointer (some ⟨w.heap.size+1,0,none⟩),.pointer (some ⟨w.heap.size+1+1,0,none⟩),.pointer (some ⟨w.heap.size+1+1+1,0,none⟩),.pointer (some ⟨w.heap.size+1+1+1+1,0,none⟩),.pointer (some ⟨w.heap.size+1+1+1+1+1,0,none⟩),.pointer (some ⟨w.heap.size+1+1+1+1+1+1,0,none⟩),.pointer (some ⟨w.heap.size+1+1+1+1+1+1+1,0,none⟩),.int .i64 z.1.1,.int .i64 z.1.2,undef,undef,.pointer (some ⟨hb,0,none⟩),.agg #[.int .i64 a,.int .i64 b],.func (.func 275) #[] #[.pointer (some ⟨p,0,none⟩),.pointer (some ⟨q,0,none⟩)],.int .i64 z.1.1,.int .i64 z.1.2,undef,undef,undef,undef,undef,undef,undef,undef,undef,undef,undef,undef,undef,undef,undef,undef,undef,undef,undef,undef,undef,undef,undef,undef,undef,undef],defers:=[] }) ?assign ?body ?done ?stop
 case assign=>
  intro l z W K hK
  gi_wp2
  exact hK
 case body=>
  rintro l pre z W ⟨⟨ip,iq,i0,i2,i3,i4,i,j,s,i5,i6,i7,hS⟩,hB⟩ _;have c0:=z6 i0 0;have hxw:q9 (fun _=>False) w W:=q9.ofBelow hB;have IP:=q8 ip;have IQ:=q8 iq;have I0:=q8 i0;have I2:=q8 i2;have I3:=q8 i3;have I4:=q8 i4;have I5:=q8 i5;have I6:=q8 i6;have I7:=q8 i7;have HS:=q8 hS;have HB:=q8 hB;have HXW:=q8 hxw;clear ip iq i0 i2 i3 i4 i5 i6 i7 hS hB hxw j0 j2 j3 j4 j5 j6 j7 kp kq hB1;have id0:W.drew.heap[w.heap.size]?=some (.cells #[.pointer (some ⟨hb,0,none⟩)] 139):=I0.out;have ixd:q9 (fun _=>False) w W.drew:=HXW.out.drew;have hz1:=z.2.1;have hz2:=z.2.2
  gi_wp2
  rename_i K aK
  suffices hK:∀ W2,q9 (fun _=>False) W W2->K { tmps:=#[.pointer (some ⟨hb,0,none⟩),.agg #[.int .i64 a,.int .i64 b],.pointer (some ⟨w.heap.size,0,none⟩),.pointer (some ⟨w.heap.size+1,0,none⟩),.pointer (some ⟨w.heap.size+1+1,0,none⟩),.pointer (some ⟨w.heap.size+1+1+1,0,none⟩),.pointer (some ⟨w.heap.size+1+1+1+1,0,none⟩),.pointer (some ⟨w.heap.size+1+1+1+1+1,0,none⟩),.pointer (some ⟨w.heap.size+1+1+1+1+1+1,0,none⟩),.pointer (some ⟨w.heap.size+1+1+1+1+1+1+1,0,none⟩),.int .i64 z.1.1,.int .i64 z.1.2,undef,undef,.pointer (some ⟨hb,0,none⟩),.agg #[.int .i64 a,.int .i64 b],.func (.func 275) #[] #[.pointer (some ⟨p,0,none⟩),.pointer (some ⟨q,0,none⟩)],.int .i64 z.1.1,.int .i64 z.1.2,.pointer (some ⟨hb,0,none⟩),.int .i64 z.1.1,.int .i64 (X.t.by_ z.1.1 TK.length),.pointer (some ⟨hb,0,none⟩),.int .i64 z.1.2,.int .i64 (X.t.by_ z.1.2 TK.length),.bool (X.t.by_ z.1.1 TK.length != X.t.by_ z.1.2 TK.length),undef,undef,undef,undef,undef,undef,undef,undef,undef,undef,undef,undef,undef,undef,undef,undef,undef,undef,undef],defers:=[] } W2 by
   have HSK:=q8 hK;clear hK
   gi_region_with (refine⟨trivial,(CallsIn.inRound l (callsIn_wide.2 (HGR.out _ _ (by assumption) (by assumption) (by assumption)))).mono ?_⟩;rintro e wa ⟨rfl,hxa,hka,hxa2⟩;have cka:=z6 hka 0;have HXA:=q8 hxa2;clear hxa2)
   all_goals
    rename_i wq h1 h2 h3 HQ;exact HSK.out _ (((q9.refl (fun _=>False) W).drew.trans HQ.out).trans HXA.out)
  intro W2 hx2;refine aK _ _ ?_;clear aK;have hBW2:Below w.heap.size w W2:=HB.out.trans (zd1 hx2 HB.out.size);have HBW2:=q8 hBW2;have HX2:=q8 hx2;have r2:W2.heap[w.heap.size+1+1]?=some (.cells #[.int .i64 0] 3):=(hx2.block _ (z8 I2.out) (fun f=>f)).trans I2.out;have r3:W2.heap[w.heap.size+1+1+1]?=some (.cells #[.int .i64 0] 3):=(hx2.block _ (z8 I3.out) (fun f=>f)).trans I3.out;have r4:W2.heap[w.heap.size+1+1+1+1]?=some (.cells #[.bool false] 4):=(hx2.block _ (z8 I4.out) (fun f=>f)).trans I4.out;have r5:W2.heap[w.heap.size+1+1+1+1+1]?=some (.cells #[.int .i64 i] 3):=(hx2.block _ (z8 I5.out) (fun f=>f)).trans I5.out;have r6:W2.heap[w.heap.size+1+1+1+1+1+1]?=some (.cells #[.int .i64 j] 3):=(hx2.block _ (z8 I6.out) (fun f=>f)).trans I6.out;have r7:W2.heap[w.heap.size+1+1+1+1+1+1+1]?=some (.cells #[.bool s] 4):=(hx2.block _ (z8 I7.out) (fun f=>f)).trans I7.out;have r0:W2.heap[w.heap.size]?=some (.cells #[.pointer (some ⟨hb,0,none⟩)] 139):=(hx2.block _ (z8 I0.out) (fun f=>f)).trans I0.out;have e0:=z6 r0 0;have e2:=z6 r2 0;have e3:=z6 r3 0;have e4:=z6 r4 0;have f2:=Q8 r2 0;have f3:=Q8 r3 0;have f4:=Q8 r4 0;have l2:=z8 r2;have l3:=z8 r3;have l4:=z8 r4;have R2:=q8 r2;have R3:=q8 r3;have R4:=q8 r4;have R5:=q8 r5;have R6:=q8 r6;have R7:=q8 r7;obtain⟨r,hr⟩:∃ r,(X.t.by_ z.1.1 TK.length != X.t.by_ z.1.2 TK.length)=r:=⟨_,rfl⟩;rw[hr];have HR:=q8 hr;have hxw2:q9 (fun _=>False) w W2:=q9.ofBelow hBW2;have HXW2:=q8 hxw2;clear hr hx2 hBW2 r0 r2 r3 r4 r5 r6 r7 hxw2 id0 ixd c0;cases r with
  | true=>
   gi_wp2
   have hge:¬GE X.t z:=by have:=HR.out;unfold GE;simpa using this
   refine⟨?_,⟨rfl,?_,?_,?_,z,by simp,hge⟩,?_⟩
   ·exact(KeepsOthers.of_ext HX2.out).trans (((KeepsOthers.setCell _ _ _).trans (KeepsOthers.setCell _ _ _)).trans (KeepsOthers.setCell _ _ _))
   ·exact(j8 _ _ (by show ¬w.heap.size+2=w.heap.size+1+1+1+1;omega)).trans ((j8 _ _ (by show ¬w.heap.size+2=w.heap.size+1+1+1;omega)).trans (Y4 R2.out 0 _))
   ·exact(j8 _ _ (by show ¬w.heap.size+3=w.heap.size+1+1+1+1;omega)).trans (Y4 ((j8 _ _ (by show ¬w.heap.size+3=w.heap.size+1+1;omega)).trans R3.out) 0 _)
   ·exact Y4 ((j8 _ _ (by show ¬w.heap.size+4=w.heap.size+1+1+1;omega)).trans ((j8 _ _ (by show ¬w.heap.size+4=w.heap.size+1+1;omega)).trans R4.out)) 0 _
   ·exact((HBW2.out.setCell (p:=⟨w.heap.size+1+1,0,none⟩) (by show w.heap.size<=w.heap.size+1+1;omega) _).setCell (p:=⟨w.heap.size+1+1+1,0,none⟩) (by show w.heap.size<=w.heap.size+1+1+1;omega) _).setCell (p:=⟨w.heap.size+1+1+1+1,0,none⟩) (by show w.heap.size<=w.heap.size+1+1+1+1;omega) _
  | false=>
   have hge:GE X.t z:=by have:=HR.out;unfold GE;simpa using this
   have HGE:=q8 hge;clear hge e2 e3 e4 f2 f3 f4
   gi_wp2
   refine⟨trivial,(CallsIn.inRound l (callsIn_wide.2 (HNOW.out W2 HXW2.out))).mono ?_⟩;rintro e W3 ⟨rfl,rfl⟩
   gi_wp2
   refine⟨trivial,(CallsIn.inRound l (callsIn_wide.2 (HEQ.out W2.drew z HXW2.out.drew))).mono ?_⟩;rintro e W4 ⟨hx4,mk,same,rfl,hke⟩;have hx24:q9 (fun _=>False) W2 W4:=((q9.refl (fun _=>False) W2).drew).trans hx4;have r5:W4.heap[w.heap.size+1+1+1+1+1]?=some (.cells #[.int .i64 i] 3):=(hx24.block _ (z8 R5.out) (fun f=>f)).trans R5.out;have r6:W4.heap[w.heap.size+1+1+1+1+1+1]?=some (.cells #[.int .i64 j] 3):=(hx24.block _ (z8 R6.out) (fun f=>f)).trans R6.out;have r7:W4.heap[w.heap.size+1+1+1+1+1+1+1]?=some (.cells #[.bool s] 4):=(hx24.block _ (z8 R7.out) (fun f=>f)).trans R7.out;have e5:=z6 r5 0;have e6:=z6 r6 0;have e7:=z6 r7 0;have f5:=Q8 r5 0;have f6:=Q8 r6 0;have f7:=Q8 r7 0;have l5:=z8 r5;have l6:=z8 r6;have l7:=z8 r7;have Q5:=q8 r5;have Q6:=q8 r6;have Q7:=q8 r7;have HX4:=q8 (HX2.out.trans hx24);have HB4:=q8 (HBW2.out.trans (zd1 hx24 HBW2.out.size));have hx5:q9 (fun _=>False) W2 (W4.alloc (.cells #[.int .u64 mk.a.toNat,.int .u64 mk.b.toNat,.int .u64 mk.c.toNat] 197)):=hx24.alloc _;have R5:=q8 ((hx5.block _ (z8 R5.out) (fun f=>f)).trans R5.out);have R6:=q8 ((hx5.block _ (z8 R6.out) (fun f=>f)).trans R6.out);have R7:=q8 ((hx5.block _ (z8 R7.out) (fun f=>f)).trans R7.out);have HKE:=q8 hke;have hxT:q9 (fun _=>False) W (W4.alloc (.cells #[.int .u64 mk.a.toNat,.int .u64 mk.b.toNat,.int .u64 mk.c.toNat] 197)):=HX2.out.trans hx5;have HXT:=q8 hxT;have hBT:Below w.heap.size w (W4.alloc (.cells #[.int .u64 mk.a.toNat,.int .u64 mk.b.toNat,.int .u64 mk.c.toNat] 197)):=HBW2.out.trans (zd1 hx5 HBW2.out.size);have HBT:=q8 hBT;have hp':¬p=w.heap.size+5/\¬p=w.heap.size+6/\¬p=w.heap.size+7:=by omega
   have hq':¬q=w.heap.size+5/\¬q=w.heap.size+6/\¬q=w.heap.size+7:=by omega
   have keep0:∀ k,k<W.heap.size->(W4.alloc (.cells #[.int .u64 mk.a.toNat,.int .u64 mk.b.toNat,.int .u64 mk.c.toNat] 197)).heap[k]?=W.heap[k]?:=fun k hk=>hxT.block k hk (fun f=>f)
   have HK0:=q8 keep0;clear hx4 hx24 hx5 r5 r6 r7 hke hxT hBT keep0 e0;cases same with
   | true=>
    gi_wp2
    have hk2:=HKE.out.1 (by simp);have hS2:ChI X.t (pre++[z]) i j s:=by
     cases s with
     | true=>exact HS.out.kept HGE.out
     | false=>exact HS.out.eq HGE.out hk2
    exact⟨KeepsOthers.of_ext HXT.out,⟨HK0.out p (z8 IP.out),HK0.out q (z8 IQ.out)⟩,⟨(HK0.out p (z8 IP.out)).trans IP.out,(HK0.out q (z8 IQ.out)).trans IQ.out,(HK0.out _ (z8 I0.out)).trans I0.out,(HK0.out _ (z8 I2.out)).trans I2.out,(HK0.out _ (z8 I3.out)).trans I3.out,(HK0.out _ (z8 I4.out)).trans I4.out,i,j,s,R5.out,R6.out,R7.out,hS2⟩,HBT.out⟩
   | false=>
    have hk2:¬KE X.t z:=fun e=>by have:=HKE.out.2 e;simp at this
    have HK2:=q8 hk2;clear hk2;cases s with
    | true=>
     gi_wp2
     exact⟨KeepsOthers.of_ext HXT.out,⟨HK0.out p (z8 IP.out),HK0.out q (z8 IQ.out)⟩,⟨(HK0.out p (z8 IP.out)).trans IP.out,(HK0.out q (z8 IQ.out)).trans IQ.out,(HK0.out _ (z8 I0.out)).trans I0.out,(HK0.out _ (z8 I2.out)).trans I2.out,(HK0.out _ (z8 I3.out)).trans I3.out,(HK0.out _ (z8 I4.out)).trans I4.out,i,j,true,R5.out,R6.out,R7.out,HS.out.kept HGE.out⟩,HBT.out⟩
    | false=>
     gi_wp2
     have keep:∀ k,k<W.heap.size->¬k=w.heap.size+5->¬k=w.heap.size+6->¬k=w.heap.size+7->((((W4.setCell ⟨w.heap.size+1+1+1+1+1,0,none⟩ (.int .i64 z.1.1)).setCell ⟨w.heap.size+1+1+1+1+1+1,0,none⟩ (.int .i64 z.1.2)).setCell ⟨w.heap.size+1+1+1+1+1+1+1,0,none⟩ (.bool true)).alloc (.cells #[.int .u64 mk.a.toNat,.int .u64 mk.b.toNat,.int .u64 mk.c.toNat] 197)).heap[k]?=W.heap[k]?:=by intro k hk n5 n6 n7;have hk4:k<W4.heap.size:=Nat.lt_of_lt_of_le hk HX4.out.size;exact(heap_alloc_old _ _ (by simpa using hk4)).trans ((j8 _ _ (by show ¬k=w.heap.size+1+1+1+1+1+1+1;omega)).trans ((j8 _ _ (by show ¬k=w.heap.size+1+1+1+1+1+1;omega)).trans ((j8 _ _ (by show ¬k=w.heap.size+1+1+1+1+1;omega)).trans (HX4.out.block k hk (fun f=>f)))))
     have kk0:=keep _ (z8 I0.out) (by omega) (by omega) (by omega);have kk2:=keep _ (z8 I2.out) (by omega) (by omega) (by omega);have kk3:=keep _ (z8 I3.out) (by omega) (by omega) (by omega);have kk4:=keep _ (z8 I4.out) (by omega) (by omega) (by omega);have kkp:=keep p (z8 IP.out) hp'.1 hp'.2.1 hp'.2.2;have kkq:=keep q (z8 IQ.out) hq'.1 hq'.2.1 hq'.2.2;refine⟨(KeepsOthers.of_ext HX4.out).trans ((((KeepsOthers.setCell _ _ _).trans (KeepsOthers.setCell _ _ _)).trans (KeepsOthers.setCell _ _ _)).trans (KeepsOthers.alloc _ _)),⟨kkp,kkq⟩,⟨kkp.trans IP.out,kkq.trans IQ.out,kk0.trans I0.out,kk2.trans I2.out,kk3.trans I3.out,kk4.trans I4.out,z.1.1,z.1.2,true,?_,?_,?_,HS.out.new HGE.out HK2.out⟩,?_⟩
     ·exact(heap_alloc_old _ _ (by simpa using l5)).trans ((j8 _ _ (by show ¬w.heap.size+5=w.heap.size+1+1+1+1+1+1+1;omega)).trans ((j8 _ _ (by show ¬w.heap.size+5=w.heap.size+1+1+1+1+1+1;omega)).trans (Y4 Q5.out 0 _)))
     ·exact(heap_alloc_old _ _ (by simpa using l6)).trans ((j8 _ _ (by show ¬w.heap.size+6=w.heap.size+1+1+1+1+1+1+1;omega)).trans (Y4 ((j8 _ _ (by show ¬w.heap.size+6=w.heap.size+1+1+1+1+1;omega)).trans Q6.out) 0 _))
     ·exact(heap_alloc_old _ _ (by simpa using l7)).trans (Y4 ((j8 _ _ (by show ¬w.heap.size+7=w.heap.size+1+1+1+1+1+1;omega)).trans ((j8 _ _ (by show ¬w.heap.size+7=w.heap.size+1+1+1+1+1;omega)).trans Q7.out)) 0 _)
     ·exact(((HB4.out.setCell (p:=⟨w.heap.size+1+1+1+1+1,0,none⟩) (by show w.heap.size<=w.heap.size+1+1+1+1+1;omega) _).setCell (p:=⟨w.heap.size+1+1+1+1+1+1,0,none⟩) (by show w.heap.size<=w.heap.size+1+1+1+1+1+1;omega) _).setCell (p:=⟨w.heap.size+1+1+1+1+1+1+1,0,none⟩) (by show w.heap.size<=w.heap.size+1+1+1+1+1+1+1;omega) _).alloc (by simp;exact HB4.out.size) _
 case done=>
  rintro D ys W hD rfl ⟨⟨ip,iq,i0,i2,i3,i4,i,j,s,i5,i6,i7,hS⟩,hB⟩ hK;have c5:=z6 i5 0;have c6:=z6 i6 0;have c7:=z6 i7 0;have e2:=z6 i2 0;have e3:=z6 i3 0;have e4:=z6 i4 0;have f2:=Q8 i2 0;have f3:=Q8 i3 0;have f4:=Q8 i4 0;have hDw:w.heap.size<=D:=Nat.le_trans hB1.size hD;obtain⟨Wf,hWf⟩:∃ Wf,(((W.setCell ⟨w.heap.size+1+1,0,none⟩ (.int .i64 i)).setCell ⟨w.heap.size+1+1+1,0,none⟩ (.int .i64 j)).setCell ⟨w.heap.size+1+1+1+1,0,none⟩ (.bool s)).drew=Wf:=⟨_,rfl⟩;have hKf:Wf.heap[D]?=some (.deferred (some [])):=by rw[<- hWf];show(((W.setCell ⟨w.heap.size+1+1,0,none⟩ (.int .i64 i)).setCell ⟨w.heap.size+1+1+1,0,none⟩ (.int .i64 j)).setCell ⟨w.heap.size+1+1+1+1,0,none⟩ (.bool s)).heap[D]?=_;exact(KeepsOthers.setCell _ _ _).same D _ ((KeepsOthers.setCell _ _ _).same D _ ((KeepsOthers.setCell _ _ _).same D _ hK rfl) rfl) rfl
  have b2:Wf.heap[w.heap.size+1+1]?=some (.cells #[.int .i64 i] 3):=by rw[<- hWf];show(((W.setCell ⟨w.heap.size+1+1,0,none⟩ (.int .i64 i)).setCell ⟨w.heap.size+1+1+1,0,none⟩ (.int .i64 j)).setCell ⟨w.heap.size+1+1+1+1,0,none⟩ (.bool s)).heap[w.heap.size+1+1]?=_;exact(j8 _ _ (by show ¬w.heap.size+1+1=w.heap.size+1+1+1+1;omega)).trans ((j8 _ _ (by show ¬w.heap.size+1+1=w.heap.size+1+1+1;omega)).trans (Y4 i2 0 _))
  have b3:Wf.heap[w.heap.size+1+1+1]?=some (.cells #[.int .i64 j] 3):=by rw[<- hWf];show(((W.setCell ⟨w.heap.size+1+1,0,none⟩ (.int .i64 i)).setCell ⟨w.heap.size+1+1+1,0,none⟩ (.int .i64 j)).setCell ⟨w.heap.size+1+1+1+1,0,none⟩ (.bool s)).heap[w.heap.size+1+1+1]?=_;exact(j8 _ _ (by show ¬w.heap.size+1+1+1=w.heap.size+1+1+1+1;omega)).trans (Y4 ((j8 _ _ (by show ¬w.heap.size+1+1+1=w.heap.size+1+1;omega)).trans i3) 0 _)
  have b4:Wf.heap[w.heap.size+1+1+1+1]?=some (.cells #[.bool s] 4):=by rw[<- hWf];show(((W.setCell ⟨w.heap.size+1+1,0,none⟩ (.int .i64 i)).setCell ⟨w.heap.size+1+1+1,0,none⟩ (.int .i64 j)).setCell ⟨w.heap.size+1+1+1+1,0,none⟩ (.bool s)).heap[w.heap.size+1+1+1+1]?=_;exact Y4 ((j8 _ _ (by show ¬w.heap.size+1+1+1+1=w.heap.size+1+1+1;omega)).trans ((j8 _ _ (by show ¬w.heap.size+1+1+1+1=w.heap.size+1+1;omega)).trans i4)) 0 _
  have hBf:Below w.heap.size w Wf:=by have h1:Below w.heap.size w (((W.setCell ⟨w.heap.size+1+1,0,none⟩ (.int .i64 i)).setCell ⟨w.heap.size+1+1+1,0,none⟩ (.int .i64 j)).setCell ⟨w.heap.size+1+1+1+1,0,none⟩ (.bool s)):=((hB.setCell (p:=⟨w.heap.size+1+1,0,none⟩) (by show w.heap.size<=w.heap.size+1+1;omega) _).setCell (p:=⟨w.heap.size+1+1+1,0,none⟩) (by show w.heap.size<=w.heap.size+1+1+1;omega) _).setCell (p:=⟨w.heap.size+1+1+1+1,0,none⟩) (by show w.heap.size<=w.heap.size+1+1+1+1;omega) _;rw[<- hWf];exact⟨h1.os,h1.tape,h1.output,h1.size,h1.block⟩
  have HWF:=q8 hWf;have g2:=Z8 b2 (grownBy_putObj' Wf D (.deferred none)) (fun r e=>by cases e;exact⟨_,hKf,rfl⟩);have g3:=Z8 b3 (grownBy_putObj' Wf D (.deferred none)) (fun r e=>by cases e;exact⟨_,hKf,rfl⟩);have g4:=Z8 b4 (grownBy_putObj' Wf D (.deferred none)) (fun r e=>by cases e;exact⟨_,hKf,rfl⟩);have z2:=z6 g2 0;have z3:=z6 g3 0;have z4:=z6 g4 0;clear hWf ip iq i0 i2 i3 i4 i5 i6 i7 b2 b3 b4 g2 g3 g4
  gi_wp2
  gi_region_with fail
  all_goals
   gi_wp2
   rw[HWF.out];refine⟨by simp,.inl ⟨_,_,rfl,run_takeDeferred hKf,?_⟩⟩;refine⟨.tuple #[.int .i64 i,.int .i64 j,.bool s],?_,i,j,s,rfl,hBf.trans (belowK_b (w:=w) (Nat.le_refl _) Wf D _ _ hDw hKf rfl rfl),fun e=>?_,fun e=>?_⟩
   ·simp[results,results265,go_sem,z2,z3,z4]
   ·obtain⟨u,h1,h2,h3⟩:=hS.yes e;exact⟨u,h1,h2,hS.ge u h1,h3⟩
   ·exact .inr (hS.no e)
 case stop=>
  rintro D c pre W hD ⟨k,hk,rfl⟩ ⟨⟨rfl,i2,i3,i4,z,hz,hn⟩,hB⟩ hK;have hDw:w.heap.size<=D:=Nat.le_trans hB1.size hD;have g2:(W.putObj D (.deferred none)).heap[w.heap.size+1+1]?=some (.cells #[.int .i64 0] 3):=Z8 i2 (grownBy_putObj' W D (.deferred none)) (fun r e=>by cases e;exact⟨_,hK,rfl⟩);have g3:(W.putObj D (.deferred none)).heap[w.heap.size+1+1+1]?=some (.cells #[.int .i64 0] 3):=Z8 i3 (grownBy_putObj' W D (.deferred none)) (fun r e=>by cases e;exact⟨_,hK,rfl⟩);have g4:(W.putObj D (.deferred none)).heap[w.heap.size+1+1+1+1]?=some (.cells #[.bool false] 4):=Z8 i4 (grownBy_putObj' W D (.deferred none)) (fun r e=>by cases e;exact⟨_,hK,rfl⟩);have z2:=z6 g2 0;have z3:=z6 g3 0;have z4:=z6 g4 0
  gi_wp2
  refine⟨by simp,.inl ⟨_,_,rfl,run_takeDeferred hK,?_⟩⟩;refine⟨.tuple #[.int .i64 0,.int .i64 0,.bool false],?_,0,0,false,rfl,hB.trans (belowK_b (w:=w) (Nat.le_refl _) W D _ _ hDw hK rfl rfl),fun e=>by simp at e,fun _=>.inl ⟨z,List.mem_of_mem_take hz,hn⟩⟩;simp[results,results265,go_sem,z2,z3,z4]
theorem qp5(h:ThR w hb g c TK AK tw As (TT++[X])){a b:Nat}{x y:Z3}(hx:TK[a]?=some x)(hy:TK[b]?=some y)(hT:TK.length<=12)(hl:TT.length<=500){ar:Nat}{zs:List (PN2 TK.length)}(hP:Prs x y ar zs):
  Calls prog 265 #[.pointer (some ⟨hb,0,none⟩),.agg #[.int .i64 a,.int .i64 b]] w fun e w'=>∃ (i j:Nat) (s:Bool),e=.returned (.tuple #[.int .i64 i,.int .i64 j,.bool s])/\q9 (fun _=>False) w w'/\(s=true->∃ z∈zs,z.1=(i,j)/\GE X.t z/\¬KE X.t z)/\(s=false->(∃ z∈zs,¬GE X.t z)\/∀ z∈zs,KE X.t z) :=
 (callsIn_wide.1 (qE5 h hx hy hT hl hP)).mono (fun _ _ ⟨i,j,s,h1,h2,h3⟩=>⟨i,j,s,h1,q9.ofBelow h2,h3⟩)
end
end
section
open Go.RowKit Ar
theorem zI9(W:World){l:Nat}(o:Obj):q9 (fun k=>k=l) W (W.putObj l o) :=
 ⟨rfl,rfl,rfl,by simp[World.putObj],fun k _ hn=>World.putObj_heap_other hn⟩
def qm2{α:Type}(P:Program)(n gf:Nat)(lb:Array Value)(encs:α->Array Value)(p:Nat)(xs:List α)(w:World):Prop :=
 ∀ (l:Nat) (J:List α->World->Prop) (W:World),q9 (fun _=>False) w W->(∀ pre A B,J pre A->q9 (fun k=>k=p) A B->J pre B) ->
  (∀ pre x A,J pre A->pre++[x] <+:xs->YieldAt Fence.wide (n-1) P l (encs x) A fun e B=>e=.returned (.bool true)/\J (pre++[x]) B/\B.heap[p]?=A.heap[p]?) ->
  J [] W->CallsIn Fence.wide n P gf (#[.func (.yield l) #[] #[]]++lb) W fun e B=>(∃ v,e=.returned v)/\J xs B
theorem zS2{α:Type}{P:Program}{n:Nat}{g:Operand}{ps:Array Tmp}{assign body:Code}{Q:Exit->Act->World->Prop}{a:Act}{w:World}(h1:1<=n){gf:Nat}{lb:Array Value}
  (hg:a.eval g=.func (.func gf) #[] lb) (eg:∀ args w,(callFunc gf args).run P w=.ok (.enter gf args) w) {encs:α->Array Value} (hps:∀ x,(encs x).size=ps.size) {p:Nat} {xs:List α} (hp:p<w.heap.size)
  (hseq:qm2 P (n-1) gf lb encs p xs w) (I:List α->World->Prop) (hIp:∀ pre A B,I pre A->q9 (fun k=>k=p) A B->I pre B)
  (hIl:∀ (pre:List α) (A:World) (l:Nat) (o o':Obj),I pre A->w.heap.size<=l->A.heap[l]?=some o->o.isCells=false->I pre (A.putObj l o')) (h0:I [] w) (a₁:α->Act)
  (hassign:∀ (l:Nat) (x:α) (W:World) (K:Act->World->Prop),K (a₁ x) W ->
   assign.wpIn (Fence.wide.inRound l) (n-1-1) P (Exit.then K (fun _ _ _=>False)) { tmps:=(ps.zip (encs x)).foldl (fun t (p,v)=>t.setIfInBounds p v) a.tmps,defers:=[] } W)
  (hbody:∀ (l:Nat) (pre:List α) (x:α) (W:World),I pre W->pre++[x] <+:xs->body.wpIn (Fence.wide.inRound l) (n-1-1) P (fun e _ B=>e=.normal/\KeepsOthers W B/\B.heap[p]?=W.heap[p]?/\I (pre++[x]) B) (a₁ x) W)
  (hdone:∀ (D:Nat) (W:World),w.heap.size<=D->I xs W->W.heap[D]?=some (.deferred (some []))->Q .normal { a with defers := { target:=.collected D,args:=#[] }::a.defers } W):
  (Code.rangeFunc g ps assign body).wpIn Fence.wide n P Q a w:=by
 refine wpIn_rangeFunc fun fn hfn=>?_
 obtain⟨R,hR⟩:∃ R:LoopState->Loop,R=fun st => { state:=st,pending:=none,fn,tmps:=a.tmps,params:=ps,assign,body,defers:=w.heap.size }:=⟨_,rfl⟩
 have hRp:∀ st,(R st).params=ps/\(R st).state=st/\(R st).pending=none:=fun st=>by rw[hR];exact⟨rfl,rfl,rfl⟩
 have hRs:∀ st st',{ R st with state:=st',pending:=none } = R st' /\ { R st with state:=st' } = R st':=fun st st'=>by rw[hR];exact⟨rfl,rfl⟩
 have hx0:q9 (fun _=>False) w ((w.alloc (.deferred (some []))).alloc (.loop (R .ready))):=((q9.refl _ w).alloc _).alloc _;have hD0:((w.alloc (.deferred (some []))).alloc (.loop (R .ready))).heap[w.heap.size]?=some (.deferred (some [])):=by rw[heap_alloc_old _ _ (by simp)];exact heap_alloc_new w _
 have hL0:((w.alloc (.deferred (some []))).alloc (.loop (R .ready))).heap[w.heap.size+1]?=some (.loop (R .ready)):=by have:=heap_alloc_new (w.alloc (.deferred (some []))) (.loop (R .ready));simpa using this
 have hI0:I [] ((w.alloc (.deferred (some []))).alloc (.loop (R .ready))):=hIp _ _ _ h0 (hx0.mono (fun _ _ f=>f.elim));obtain⟨W1,hW1⟩:∃ W1,(w.alloc (.deferred (some []))).alloc (.loop (R .ready))=W1:=⟨_,rfl⟩;refine⟨w.heap.size+1,[{ target:=.collected w.heap.size,args:=#[] }],W1,{ target:=.fn (.func gf) lb,args:=#[.func (.yield (w.heap.size+1)) #[] #[]] },W1,gf,#[.func (.yield (w.heap.size+1)) #[] #[]]++lb,W1,?_,?_,?_,?_,fun _=>h1,?_⟩
 ·rw[<- hW1,hR];exact run_enterLoop_outer _ _ _ _ _
 ·simp only[resolve,hg];simp[go_sem]
 ·intro f' hf';simp[Target.leads] at hf';subst hf';trivial
 ·simp[invoke,go_sem,eg]
 rw[hW1] at hx0 hD0 hL0 hI0;refine(hseq (w.heap.size+1) (fun pre W=>I pre W/\W.heap[w.heap.size+1]?=some (.loop (R .ready))/\W.heap[w.heap.size]?=some (.deferred (some []))) W1 hx0 ?_ ?_ ⟨hI0,hL0,hD0⟩).mono ?_
 ·rintro pre A B ⟨q1,q2,q3⟩ hx;exact⟨hIp pre A B q1 hx,(hx.block _ (z8 q2) (by omega)).trans q2,(hx.block _ (z8 q3) (by omega)).trans q3⟩
 ·rintro pre x A ⟨q1,q2,q3⟩ hpre;have hy:=run_yield (P:=P) (args:=encs x) q2 (by rw[(hRp _).1];exact hps x);have hbg:=run_beginRound (P:=P) q2 (hRp _).2.1;rw[(hRs _ _).2] at hbg;have hlt:=z8 q2;have k2:(A.putObj (w.heap.size+1) (.loop (R .busy))).heap[w.heap.size+1]?=some (.loop (R .busy)):=World.putObj_heap_same hlt;have k3:(A.putObj (w.heap.size+1) (.loop (R .busy))).heap[w.heap.size]?=some (.deferred (some [])):=(World.putObj_heap_other (by omega)).trans q3;have kp:(A.putObj (w.heap.size+1) (.loop (R .busy))).heap[p]?=A.heap[p]?:=World.putObj_heap_other (by omega);have hbd:=hbody (w.heap.size+1) pre x _ (hIl pre A (w.heap.size+1) _ (.loop (R .busy)) q1 (by omega) q2 rfl) hpre;rw[hR] at hy;refine⟨fn,_,assign,body,hy,roundIn_of_wpIn hfn (hassign _ x A _ ⟨_,hbg,wpIn_mono hbd ?_⟩)⟩;rintro e a3 B ⟨rfl,hko,hpp,hIB⟩;have z2:=hko.same _ _ k2 rfl;have z3:=hko.same _ _ k3 rfl;have hend:=run_endRound (P:=P) none z2;refine⟨_,_,hend,rfl,⟨?_,?_,?_⟩,?_⟩
  ·exact hIl _ B _ _ _ hIB (by omega) z2 rfl
  ·rw[World.putObj_heap_same (z8 z2)];simp only[Option.isNone_none,if_pos];rw[(hRs _ _).1]
  ·exact(World.putObj_heap_other (by omega)).trans z3
  ·exact(World.putObj_heap_other (by omega)).trans (hpp.trans kp)
 ·rintro e B ⟨⟨v,rfl⟩,q1,q2,q3⟩;have hend:=run_endLoop (P:=P) q2 (by rw[(hRp _).2.1];simp);rw[(hRp _).2.2] at hend;exact⟨none,_,hend,hdone _ _ (Nat.le_refl _) (hIl _ B _ _ _ q1 (by omega) q2 rfl) ((World.putObj_heap_other (by omega)).trans q3)⟩
end
section
open Go.RowKit Ar
attribute [local go_sem] Oper.semAt_some
theorem qv0(m:M3):∃ xs:List Nat,xs.Pairwise (· > ·)/\∀ k,m.has k=true↔k∈xs:=by
 refine⟨((List.range 192).filter (fun k=>m.has k)).reverse,?_,fun k=>?_⟩
 ·rw[List.pairwise_reverse];exact(List.pairwise_lt_range (n:=192)).filter _
 ·rw[List.mem_reverse,List.mem_filter,List.mem_range];exact⟨fun h=>⟨M3.has_lt h,h⟩,fun h=>h.2⟩
theorem zC5{xs:List Nat}(h:xs.Pairwise (· > ·)){j x:Nat}(hx:xs[j]?=some x):x∈xs.drop j/\(∀ k∈xs.drop j,k<=x)/\∀ k,k∈xs.drop (j+1)↔k∈xs.drop j/\k≠x:=by
 have hlt:=(List.getElem?_eq_some_iff.1 hx).1;have e:xs.drop j=x::xs.drop (j+1):=by rw[List.drop_eq_getElem_cons hlt,(List.getElem?_eq_some_iff.1 hx).2]
 have hp:=h.sublist (List.drop_sublist j xs);rw[e] at hp ⊢;rw[List.pairwise_cons] at hp;refine⟨by simp,fun k hk=>?_,fun k=>⟨fun hk=>⟨by simp[hk],fun e=>?_⟩,fun hk=>?_⟩⟩
 ·rcases List.mem_cons.1 hk with e|e
  ·omega
  ·have:=hp.1 k e;omega
 ·have:=hp.1 k hk;omega
 ·rcases List.mem_cons.1 hk.1 with e|e
  ·exact absurd e hk.2
  ·exact e
theorem qc9{w:World}(m:M3):Calls prog 181 #[m.val] w fun e w'=>∃ p,e=.returned (.func (.func 211) #[] #[.pointer (some ⟨p,0,none⟩)])/\p=w.heap.size/\q9 (fun _=>False) w w'/\w'.heap[p]?=some (.cells #[.int .u64 m.a.toNat,.int .u64 m.b.toNat,.int .u64 m.c.toNat] 197):=by unfold M3.val u64;go_enter func181,ntmps181;go_wp2_with fail;go_ret;exact⟨_,rfl,rfl,(q9.refl _ w).alloc _,heap_alloc_new w _⟩
def qv1:Value->Bool
 | .bool b=>b
 | _=>false
theorem qL7{w:World}{p:Nat}{m:M3}{xs:List Nat}(hpw:xs.Pairwise (· > ·))(hm:∀ k,m.has k=true↔k∈xs)(kp:w.heap[p]?=some (.cells #[.int .u64 m.a.toNat,.int .u64 m.b.toNat,.int .u64 m.c.toNat] 197))(n:Nat)(hn:1<=n):
  qm2 prog n 211 #[.pointer (some ⟨p,0,none⟩)] (fun x:Nat=>#[.int .i64 (x:Int)]) p xs w:=by
 intro l J W hW hst hY h0;have kpW:=(hW.block _ (z8 kp) (fun f=>f)).trans kp;have c0:=z6 kpW 0;have c1:=z6 kpW 1;have c2:=z6 kpW 2;refine callsIn_of_wp func211 rfl trivial ?_ rfl;simp only[ntmps211,List.size_toArray,List.length_cons,List.length_nil,Nat.reduceAdd,Nat.reduceSub,Array.replicate_succ,Array.replicate_zero,List.push_toArray,List.append_toArray,List.nil_append,List.cons_append]
 gi_wp2
 have HL:Hid (∀ (m':M3) (j:Nat),(∀ k,m'.has k=true↔k∈xs.drop j)->∀ W,Calls prog 180 #[.agg #[.int .u64 m'.a.toNat,.int .u64 m'.b.toNat,.int .u64 m'.c.toNat]] W fun e w'=>e=.returned (.tuple #[.int .i64 ((xs[j]?.getD 0:Nat):Int),.bool (decide (j<xs.length))])/\q9 (fun _=>False) W w'):=by
  intro m' j hmj W;refine(zL3 m' W).mono ?_;rintro e w' ⟨hx,⟨he,hno⟩|⟨k,he,hk,hk2⟩⟩
  ·have hj:¬j<xs.length:=fun hlt=>by
    have:=(hmj xs[j]).2 (zC5 hpw (List.getElem?_eq_getElem hlt)).1;rw[hno] at this;simp at this
   refine⟨?_,hx⟩;rw[he,decide_eq_false hj,List.getElem?_eq_none (by omega)]
   rfl
  ·have hkm:=(hmj k).1 hk;have hj:j<xs.length:=by
    rcases Nat.lt_or_ge j xs.length with h|h
    ·exact h
    ·rw[List.drop_eq_nil_of_le h] at hkm;simp at hkm
   obtain⟨d1,d2,_⟩:=zC5 hpw (List.getElem?_eq_getElem hj);have e1:k=xs[j]:=Nat.le_antisymm (d2 k hkm) (hk2 _ ((hmj _).2 d1));refine⟨?_,hx⟩;rw[he,decide_eq_true hj,e1];simp[hj]
 have HST:=q8 hst;have HY:=q8 hY;refine⟨trivial,(callsIn_wide.2 (HL.out m 0 (by simpa using hm) W)).mono ?_⟩;rintro e w1 ⟨rfl,hx1⟩;have hJ1:=hst _ _ _ h0 (hx1.mono (fun _ _ f=>f.elim));have kp1:=(hx1.block _ (z8 kpW) (fun f=>f)).trans kpW;have HJ1:=q8 hJ1;have KP1:=q8 kp1;clear hst hY hJ1 kp1 c0 c1 c2 kpW h0 hx1
 gi_wp2
 gi_loopw [3,4] (fun nv mv wr=>∃ (j:Nat) (m':M3),j<=xs.length/\nv=.int .i64 ((xs[j]?.getD 0:Nat):Int)/\mv=.bool (decide (j<xs.length))/\wr.heap[p]?=some (.cells #[.int .u64 m'.a.toNat,.int .u64 m'.b.toNat,.int .u64 m'.c.toNat] 197)/\(∀ k,m'.has k=true↔k∈xs.drop j)/\J (xs.take j) wr) (fun nv mv _=>if qv1 mv=true then(intOf nv).toNat+1 else 0)
 case atStart=>exact⟨0,m,Nat.zero_le _,rfl,rfl,KP1.out,by simpa using hm,HJ1.out⟩
 case round=>
  obtain⟨j,m',hj,rfl,rfl,hpr,hmj,hJr⟩:=hrel;have HPR:=q8 hpr;have HMJ:=q8 hmj;have HJR:=q8 hJr;by_cases hlt:j<xs.length
  ·obtain⟨x,hx⟩:∃ x,xs[j]?=some x:=⟨_,List.getElem?_eq_getElem hlt⟩;obtain⟨dm1,dm2,dm3⟩:=zC5 hpw hx;have hx192:x<192:=M3.has_lt ((hmj x).2 dm1);have hpre:xs.take j++[x] <+:xs:=by rw[<- zb2 hx];exact List.take_prefix _ _
   have e1:xs[j]?.getD 0=x:=by rw[hx];rfl
   have e2:decide (j<xs.length)=true:=decide_eq_true hlt;rw[e1,e2];obtain⟨fn,tmps,assign,body,hy,hR⟩:=HY.out (xs.take j) x wr hJr hpre;have HX:=q8 hx;have HE1:=q8 e1;have HDM:=q8 (And.intro dm1 (And.intro dm2 dm3));clear hpr hmj hJr hx dm1 dm2 dm3 hpre e1 e2
   gi_wp2
   refine hR.mono ?_;rintro e W3 ⟨rfl,hJ3,hp3⟩;have kp3:=hp3.trans HPR.out;have g0:=z6 kp3 0;have g1:=z6 kp3 1;have g2:=z6 kp3 2;have HJ3:=q8 hJ3;have KP3:=q8 kp3;clear hJ3 hp3 kp3 hR hy;have HOF:Hid (∀ W,Calls prog 179 #[.int .i64 x] W fun e w'=>e=.returned (.agg #[.int .u64 (M3.of x).a.toNat,.int .u64 (M3.of x).b.toNat,.int .u64 (M3.of x).c.toNat])/\q9 (fun _=>False) W w'):=fun W=>zZ1 x hx192 W
   have HWT:Hid (∀ W,Calls prog 183 #[.agg #[.int .u64 m'.a.toNat,.int .u64 m'.b.toNat,.int .u64 m'.c.toNat],.agg #[.int .u64 (M3.of x).a.toNat,.int .u64 (M3.of x).b.toNat,.int .u64 (M3.of x).c.toNat]] W fun e w'=>e=.returned (.agg #[.int .u64 (m'.sub (M3.of x)).a.toNat,.int .u64 (m'.sub (M3.of x)).b.toNat,.int .u64 (m'.sub (M3.of x)).c.toNat])/\q9 (fun _=>False) W w'):=fun W=>qg6 m' (M3.of x) W
   have hmj1:∀ k,(m'.sub (M3.of x)).has k=true↔k∈xs.drop (j+1):=by
    intro k;rw[M3.has_sub,HDM.out.2.2 k,<- HMJ.out k];simp only[Bool.and_eq_true,Bool.not_eq_true'];refine and_congr_right fun hk=>?_
    rw[M3.has_of hx192];simp[eq_comm]
   have HMJ1:=q8 hmj1;have KD:Hid (W3.drew.heap[p]?=_):=KP3;clear hmj1
   gi_wp2
   gi_region_with (first
    | (refine⟨trivial,?_⟩;gi_at_call 183;refine(callsIn_wide.2 (HWT.out _)).mono ?_;rintro e wb ⟨rfl,hxb⟩;have kb:=(hxb.block _ (z8 KPA.out) (fun f=>f)).trans KPA.out;have b0:=z6 kb 0;have b1:=z6 kb 1;have b2:=z6 kb 2;have bf0:=Q8 kb 0;have bf1:=Q8 kb 1;have bf2:=Q8 kb 2;have KPB:=q8 kb;have HXB:=q8 hxb;clear kb hxb)
    | (refine⟨trivial,?_⟩;gi_at_call 179;refine(callsIn_wide.2 (HOF.out _)).mono ?_;rintro e wa ⟨rfl,hxa⟩;have ka:=(hxa.block _ (z8 KD.out) (fun f=>f)).trans KD.out;have a0:=z6 ka 0;have a1:=z6 ka 1;have a2:=z6 ka 2;have KPA:=q8 ka;have HXA:=q8 hxa;clear ka hxa)
    | fail)
   all_goals
    have hxw:q9 (fun _=>False) W3 wb:=((q9.refl (fun _=>False) W3).drew.trans HXA.out).trans HXB.out;have hx3:=ze3 wb p (.int .u64 (m'.sub (M3.of x)).a.toNat) (.int .u64 (m'.sub (M3.of x)).b.toNat) (.int .u64 (m'.sub (M3.of x)).c.toNat);have hJ4:=HST.out _ _ _ HJ3.out ((hxw.mono (fun _ _ f=>f.elim)).trans' hx3 (fun _ _ e=>e));have kp4:(((wb.setCell ⟨p,0,none⟩ (.int .u64 (m'.sub (M3.of x)).a.toNat)).setCell ⟨p,1,none⟩ (.int .u64 (m'.sub (M3.of x)).b.toNat)).setCell ⟨p,2,none⟩ (.int .u64 (m'.sub (M3.of x)).c.toNat)).heap[p]?=some (.cells #[.int .u64 (m'.sub (M3.of x)).a.toNat,.int .u64 (m'.sub (M3.of x)).b.toNat,.int .u64 (m'.sub (M3.of x)).c.toNat] 197):=Y4 (Y4 (Y4 KPB.out 0 _) 1 _) 2 _;obtain⟨W4,hW4⟩:∃ W4,(((wb.setCell ⟨p,0,none⟩ (.int .u64 (m'.sub (M3.of x)).a.toNat)).setCell ⟨p,1,none⟩ (.int .u64 (m'.sub (M3.of x)).b.toNat)).setCell ⟨p,2,none⟩ (.int .u64 (m'.sub (M3.of x)).c.toNat))=W4:=⟨_,rfl⟩;rw[hW4] at hJ4 kp4;have p0:=z6 kp4 0;have p1:=z6 kp4 1;have p2:=z6 kp4 2;have HJ4:=q8 hJ4;have KP4:=q8 kp4;have HW4:=q8 hW4;clear hJ4 kp4 hW4 hx3 hxw
    gi_wp2
    rw[HW4.out];refine⟨trivial,(callsIn_wide.2 (HL.out _ (j+1) HMJ1.out W4)).mono ?_⟩;rintro e w5 ⟨rfl,hx5⟩;have HJ5:=q8 (HST.out _ _ _ HJ4.out (hx5.mono (fun _ _ f=>f.elim)));have KP5:=q8 ((hx5.block _ (z8 KP4.out) (fun f=>f)).trans KP4.out);have hms:j+1<xs.length->xs[j+1]?.getD 0<x:=by intro hj1;have h1:xs[j+1]?=some xs[j+1]:=List.getElem?_eq_getElem hj1;have h2:=(zC5 hpw h1).1;obtain⟨h3,h4⟩:=(HDM.out.2.2 _).1 h2;have h5:=HDM.out.2.1 _ h3;rw[h1];show xs[j+1]<x;omega
    have HMS:=q8 hms;clear hms hx5 p0 p1 p2 HW4
    gi_wp2
    go_roundw
    case measure=>
     by_cases hj1:j+1<xs.length
     ·have:=HMS.out hj1;simp[qv1,intOf,hj1] at this ⊢;omega
     ·simp[qv1,intOf,hj1]
    case rel=>refine⟨j+1,_,by omega,rfl,rfl,KP5.out,HMJ1.out,?_⟩;rw[zb2 HX.out];exact HJ5.out
  ·have e2:decide (j<xs.length)=false:=decide_eq_false hlt;have hjl:j=xs.length:=by omega
   rw[e2];clear hpr hmj hJr e2
   gi_wp2
   go_end0
   refine⟨⟨_,rfl⟩,?_⟩;have:=HJR.out;rw[hjl,List.take_length] at this;exact this
end
end Go.Proofs.YtegbdaffhpiacaaGreatDoor
