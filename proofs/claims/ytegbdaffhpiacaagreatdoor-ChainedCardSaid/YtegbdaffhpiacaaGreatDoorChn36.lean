/- A theory in memory: have the arguments of twins the same greatest values, and need they not?; A theory in memory: reach. -/
import Derived.Test.YtegbdaffhpiacaaGreatDoorChn30
import Derived.Test.YtegbdaffhpiacaaGreatDoorChn28
namespace Go.Proofs.YtegbdaffhpiacaaGreatDoor
open Go.RowKit Ar
attribute [local go_sem] Oper.semAt_some
theorem heap_alloc_at {w:World} {o:Obj} {k:Nat} (h:k=w.heap.size):(w.alloc o).heap[k]?=some o:=by subst h;exact heap_alloc_new w o
def GE (T:Tb) {m:Nat} (z:PN2 m):Prop:=T.by_ z.1.1 m=T.by_ z.1.2 m
structure ChI {m:Nat} (T:Tb) (pre:List (PN2 m)) (i j:Nat) (s:Bool):Prop where
 ge:∀ z∈pre,GE T z
 yes:s=true->∃ z∈pre,z.1=(i,j)/\¬KE T z
 no:s=false->∀ z∈pre,KE T z
theorem ChI.nil {m:Nat} (T:Tb):ChI (m:=m) T [] 0 0 false:=⟨fun _ h=>by simp at h,fun h=>by simp at h,fun _ _ h=>by simp at h⟩
theorem mem_snoc {α:Type} {l:List α} {x : α} {P : α->Prop} (h:∀ z∈l,P z) (hx:P x):∀ z∈l++[x],P z:=fun z hz=>by
 rcases List.mem_append.1 hz with e | e
 ·exact h z e
 ·simp at e;subst e;exact hx
theorem ChI.kept {m:Nat} {T:Tb} {pre:List (PN2 m)} {i j:Nat} (h:ChI T pre i j true) {z:PN2 m} (hz:GE T z):ChI T (pre++[z]) i j true :=
 ⟨mem_snoc h.ge hz,fun _=>by obtain ⟨u,h1,h2⟩:=h.yes rfl;exact ⟨u,List.mem_append_left _ h1,h2⟩,fun e=>by simp at e⟩
theorem ChI.eq {m:Nat} {T:Tb} {pre:List (PN2 m)} {i j:Nat} (h:ChI T pre i j false) {z:PN2 m} (hz:GE T z) (hk:KE T z):ChI T (pre++[z]) i j false :=
 ⟨mem_snoc h.ge hz,fun e=>by simp at e,fun _=>mem_snoc (h.no rfl) hk⟩
theorem ChI.new {m:Nat} {T:Tb} {pre:List (PN2 m)} {i j:Nat} (h:ChI T pre i j false) {z:PN2 m} (hz:GE T z) (hk:¬KE T z):ChI T (pre++[z]) z.1.1 z.1.2 true :=
 ⟨mem_snoc h.ge hz,fun _=>⟨z,by simp,rfl,hk⟩,fun e=>by simp at e⟩
section
variable {w:World} {hb g:Nat} {c:ThV} {TK:List TKey} {AK:List PA} {tw:List (Nat × Nat)} {As:List (PA × Bool)} {TT:List Tab} {X:Tab} {F:Fx}
set_option maxRecDepth 100000 in
set_option maxHeartbeats 2000000 in
theorem chance_in (h:ThR w hb g c TK AK tw As (TT++[X])) {a b:Nat} {x y:TKey} (hx:TK[a]?=some x) (hy:TK[b]?=some y) (hT:TK.length<=12) (hl:TT.length<=500) {ar:Nat} {zs:List (PN2 TK.length)} (hP:Prs x y ar zs) :
  CallsIn Fence.wide 5 Tryz.prog 265 #[.pointer (some ⟨hb,0,none⟩),.agg #[.int .i64 a,.int .i64 b]] w fun e w'=>∃ (i j:Nat) (s:Bool),e=.returned (.tuple #[.int .i64 i,.int .i64 j,.bool s])/\Below w.heap.size w w'/\(s=true->∃ z∈zs,z.1=(i,j)/\GE X.t z/\¬KE X.t z)/\(s=false->(∃ z∈zs,¬GE X.t z)\/∀ z∈zs,KE X.t z):=by
 have HH:=hide h
 have HP:=hide hP
 have HARG:Hid (∀ W,Ext (fun _=>False) w W->Calls Tryz.prog 271 #[.pointer (some ⟨hb,0,none⟩),.agg #[.int .i64 a,.int .i64 b]] W fun e w'=>∃ p q,e=.returned (.func (.func 275) #[] #[.pointer (some ⟨p,0,none⟩),.pointer (some ⟨q,0,none⟩)])/\W.heap.size<=p/\W.heap.size<=q/\Ext (fun _=>False) W w'/\w'.heap[p]?=some (.cells (tkArr x) 145)/\w'.heap[q]?=some (.cells (tkArr y) 145)) :=
  fun W hxw=>args_any (h.ext hxw (fun _ _ f=>f)) hx hy
 have HNOW:Hid (∀ W,Ext (fun _=>False) w W->Calls Tryz.prog 259 #[.pointer (some ⟨hb,0,none⟩)] W fun e w'=>e=.returned (.pointer (some ⟨g,TT.length * 681,none⟩))/\w' = W.drew):=by
  intro W hxw
  have:=now_any (h.ext hxw (fun _ _ f=>f)) (by simp) (by simp;omega)
  rw [List.length_append,List.length_singleton,Nat.add_sub_cancel] at this
  exact this
 have HGR:Hid (∀ (i:Nat) (W:World),i < TK.length->Ext (fun _=>False) w W->W.heap[w.heap.size]?=some (.cells #[.pointer (some ⟨hb,0,none⟩)] 139)->Calls Tryz.prog 262 #[.pointer (some ⟨hb,0,none⟩),.int .i64 i] W fun e w'=>e=.returned (.int .i64 (X.t.by_ i TK.length))/\Ext (fun _=>False) w w'/\w'.heap[w.heap.size]?=some (.cells #[.pointer (some ⟨hb,0,none⟩)] 139)/\Ext (fun _=>False) W w') :=
  fun i W hi hxw hk=>(thGreatest_any (h.ext hxw (fun _ _ f=>f)) hT hl (Nat.le_of_lt hi)).mono (fun _ _ h=>⟨h.1,hxw.trans h.2,(h.2.block _ (block_lt hk) (fun f=>f)).trans hk,h.2⟩)
 obtain ⟨C,kg,hTab,_⟩:=h.tab
 have HEQ:Hid (∀ (W:World) (z:PN2 TK.length),Ext (fun _=>False) w W->Calls Tryz.prog 272 #[.pointer (some ⟨g,TT.length * 681,none⟩),.int .i64 z.1.1,.int .i64 z.1.2] W fun e w'=>Ext (fun _=>False) W w'/\∃ (mk:M3) (same:Bool),e=.returned (.tuple #[.agg #[.int .u64 mk.a.toNat,.int .u64 mk.b.toNat,.int .u64 mk.c.toNat],.bool same])/\(same=true↔KE X.t z)) :=
  fun W z hxw=>(equal_any ((hxw.block _ (block_lt kg) (fun f=>f)).trans kg) hTab (by have:=z.2.1;omega) (by have:=z.2.2;omega)).mono (fun e w' h=>⟨h.1,by
   rcases h.2 with ⟨h1,h2⟩ | ⟨h1,h2⟩
   ·exact ⟨M3.none,false,h1,by simp;exact h2⟩
   ·exact ⟨_,true,h1,by simp;exact h2⟩⟩)
 obtain ⟨off,hoff⟩:∃ off,TT.length * 681=off:=⟨_,rfl⟩
 rw [hoff] at HNOW HEQ
 obtain ⟨W0,hW0⟩:∃ W0,((((((((w.alloc (Obj.cells #[.pointer (some ⟨hb,0,none⟩)] 139)).alloc (Obj.cells #[.int .i64 a,.int .i64 b] 151)).alloc (Obj.cells #[.int .i64 0] 3)).alloc (Obj.cells #[.int .i64 0] 3)).alloc (Obj.cells #[.bool false] 4)).alloc (Obj.cells #[.int .i64 0] 3)).alloc (Obj.cells #[.int .i64 0] 3)).alloc (Obj.cells #[.bool false] 4))=W0:=⟨_,rfl⟩
 have hxW0:Ext (fun _=>False) w W0:=by rw [<- hW0];exact ((((((((Ext.refl _ w).alloc _).alloc _).alloc _).alloc _).alloc _).alloc _).alloc _).alloc _
 have hsz0:W0.heap.size=w.heap.size+8:=by rw [<- hW0];simp
 have k0:W0.heap[w.heap.size]?=some (.cells #[.pointer (some ⟨hb,0,none⟩)] 139):=by
  rw [<- hW0,heap_alloc_old _ _ (by simp;omega),heap_alloc_old _ _ (by simp;omega),heap_alloc_old _ _ (by simp;omega),heap_alloc_old _ _ (by simp;omega),heap_alloc_old _ _ (by simp;omega),heap_alloc_old _ _ (by simp;omega),heap_alloc_old _ _ (by simp)]
  exact heap_alloc_at (by simp)
 have k2:W0.heap[w.heap.size+2]?=some (.cells #[.int .i64 0] 3):=by
  rw [<- hW0,heap_alloc_old _ _ (by simp),heap_alloc_old _ _ (by simp),heap_alloc_old _ _ (by simp),heap_alloc_old _ _ (by simp),heap_alloc_old _ _ (by simp)]
  exact heap_alloc_at (by simp)
 have k3:W0.heap[w.heap.size+3]?=some (.cells #[.int .i64 0] 3):=by
  rw [<- hW0,heap_alloc_old _ _ (by simp),heap_alloc_old _ _ (by simp),heap_alloc_old _ _ (by simp),heap_alloc_old _ _ (by simp)]
  exact heap_alloc_at (by simp)
 have k4:W0.heap[w.heap.size+4]?=some (.cells #[.bool false] 4):=by
  rw [<- hW0,heap_alloc_old _ _ (by simp),heap_alloc_old _ _ (by simp),heap_alloc_old _ _ (by simp)]
  exact heap_alloc_at (by simp)
 have k5:W0.heap[w.heap.size+5]?=some (.cells #[.int .i64 0] 3):=by
  rw [<- hW0,heap_alloc_old _ _ (by simp),heap_alloc_old _ _ (by simp)]
  exact heap_alloc_at (by simp)
 have k6:W0.heap[w.heap.size+6]?=some (.cells #[.int .i64 0] 3):=by
  rw [<- hW0,heap_alloc_old _ _ (by simp)]
  exact heap_alloc_at (by simp)
 have k7:W0.heap[w.heap.size+7]?=some (.cells #[.bool false] 4):=by
  rw [<- hW0]
  exact heap_alloc_at (by simp)
 have HWE:=hide hW0
 clear h hx hy hP kg hTab hW0 hoff
 refine callsIn_of_wp_marks Tryz.func265 rfl trivial ?_ rfl
 simp only [Tryz.ntmps265,List.size_toArray,List.length_cons,List.length_nil,Nat.reduceAdd,Nat.reduceSub,Array.replicate_succ,Array.replicate_zero,List.push_toArray,List.append_toArray,List.nil_append,List.cons_append]
 gi_wp2
 rw [HWE.out]
 clear HWE
 refine ⟨trivial,(callsIn_wide.2 (HARG.out W0 hxW0)).mono ?_⟩
 rintro e w1 ⟨p,q,rfl,hp,hq,hx1,kp,kq⟩
 have j0:=(hx1.block _ (block_lt k0) (fun f=>f)).trans k0
 have j2:=(hx1.block _ (block_lt k2) (fun f=>f)).trans k2
 have j3:=(hx1.block _ (block_lt k3) (fun f=>f)).trans k3
 have j4:=(hx1.block _ (block_lt k4) (fun f=>f)).trans k4
 have j5:=(hx1.block _ (block_lt k5) (fun f=>f)).trans k5
 have j6:=(hx1.block _ (block_lt k6) (fun f=>f)).trans k6
 have j7:=(hx1.block _ (block_lt k7) (fun f=>f)).trans k7
 have hB1:Below w.heap.size w w1:=(hxW0.trans hx1).toBelow
 clear k0 k2 k3 k4 k5 k6 k7 HARG
 gi_wp2
 refine wpIn_rangeFunc_ownF (F:=Fence.wide) (n:=5) rfl (by omega) (gf:=275) (lb:=#[.pointer (some ⟨p,0,none⟩),.pointer (some ⟨q,0,none⟩)]) rfl trivial (enters_of Tryz.func275 (by kernel_rfl) rfl)
  (args_stops HP.out kp kq 4 (by omega)) kpq_t (kpq_b (block_lt kp) (block_lt kq)) (Below.refl _ _) (fun _=>rfl)
  (fun pre W=>(W.heap[p]?=some (.cells (tkArr x) 145)/\W.heap[q]?=some (.cells (tkArr y) 145)/\W.heap[w.heap.size]?=some (.cells #[.pointer (some ⟨hb,0,none⟩)] 139)/\W.heap[w.heap.size+2]?=some (.cells #[.int .i64 0] 3)/\W.heap[w.heap.size+3]?=some (.cells #[.int .i64 0] 3)/\W.heap[w.heap.size+4]?=some (.cells #[.bool false] 4)/\∃ (i j:Nat) (s:Bool),W.heap[w.heap.size+5]?=some (.cells #[.int .i64 i] 3)/\W.heap[w.heap.size+6]?=some (.cells #[.int .i64 j] 3)/\W.heap[w.heap.size+7]?=some (.cells #[.bool s] 4)/\ChI X.t pre i j s)/\Below w.heap.size w W)
  (fun c pre W=>(c=.ret/\W.heap[w.heap.size+2]?=some (.cells #[.int .i64 0] 3)/\W.heap[w.heap.size+3]?=some (.cells #[.int .i64 0] 3)/\W.heap[w.heap.size+4]?=some (.cells #[.bool false] 4)/\∃ z∈pre,¬GE X.t z)/\Below w.heap.size w W)
  (OwnFrom.and (Own.from (fun s A B row hs hg hr=>by
   obtain ⟨hp1,hq1,h0,h2,h3,h4,i,j,s,h5,h6,h7,h8⟩:=hs
   exact ⟨block_kept hp1 hg hr,block_kept hq1 hg hr,block_kept h0 hg hr,block_kept h2 hg hr,block_kept h3 hg hr,block_kept h4 hg hr,i,j,s,block_kept h5 hg hr,block_kept h6 hg hr,block_kept h7 hg hr,h8⟩) _) (ownFrom_below (Nat.le_refl _) (hB1.size)))
  (fun c=>OwnFrom.and (Own.from (fun s A B row hs hg hr=>by
   obtain ⟨h1,h2,h3,h4,h5⟩:=hs
   exact ⟨h1,block_kept h2 hg hr,block_kept h3 hg hr,block_kept h4 hg hr,h5⟩) _) (ownFrom_below (Nat.le_refl _) (hB1.size)))
  ⟨⟨kp,kq,j0,j2,j3,j4,0,0,false,j5,j6,j7,ChI.nil _⟩,hB1⟩
  (fun z => { tmps:=#[.pointer (some ⟨hb,0,none⟩),.agg #[.int .i64 a,.int .i64 b],.pointer (some ⟨w.heap.size,0,none⟩),.pointer (some ⟨w.heap.size+1,0,none⟩),.pointer (some ⟨w.heap.size+1+1,0,none⟩),.pointer (some ⟨w.heap.size+1+1+1,0,none⟩),.pointer (some ⟨w.heap.size+1+1+1+1,0,none⟩),.pointer (some ⟨w.heap.size+1+1+1+1+1,0,none⟩),.pointer (some ⟨w.heap.size+1+1+1+1+1+1,0,none⟩),.pointer (some ⟨w.heap.size+1+1+1+1+1+1+1,0,none⟩),.int .i64 z.1.1,.int .i64 z.1.2,undef,undef,.pointer (some ⟨hb,0,none⟩),.agg #[.int .i64 a,.int .i64 b],.func (.func 275) #[] #[.pointer (some ⟨p,0,none⟩),.pointer (some ⟨q,0,none⟩)],.int .i64 z.1.1,.int .i64 z.1.2,undef,undef,undef,undef,undef,undef,undef,undef,undef,undef,undef,undef,undef,undef,undef,undef,undef,undef,undef,undef,undef,undef,undef,undef,undef,undef],defers:=[] }) ?assign ?body ?done ?stop
 case assign =>
  intro l z W K hK
  gi_wp2
  exact hK
 case body =>
  rintro l pre z W ⟨⟨ip,iq,i0,i2,i3,i4,i,j,s,i5,i6,i7,hS⟩,hB⟩ _
  have c0:=cell_of_block i0 0
  have hxw:Ext (fun _=>False) w W:=Ext.ofBelow hB
  have IP:=hide ip
  have IQ:=hide iq
  have I0:=hide i0
  have I2:=hide i2
  have I3:=hide i3
  have I4:=hide i4
  have I5:=hide i5
  have I6:=hide i6
  have I7:=hide i7
  have HS:=hide hS
  have HB:=hide hB
  have HXW:=hide hxw
  clear ip iq i0 i2 i3 i4 i5 i6 i7 hS hB hxw j0 j2 j3 j4 j5 j6 j7 kp kq hB1
  have id0:W.drew.heap[w.heap.size]?=some (.cells #[.pointer (some ⟨hb,0,none⟩)] 139):=I0.out
  have ixd:Ext (fun _=>False) w W.drew:=HXW.out.drew
  have hz1:=z.2.1
  have hz2:=z.2.2
  gi_wp2
  rename_i K aK
  suffices hK:∀ W2,Ext (fun _=>False) W W2->K { tmps:=#[.pointer (some ⟨hb,0,none⟩),.agg #[.int .i64 a,.int .i64 b],.pointer (some ⟨w.heap.size,0,none⟩),.pointer (some ⟨w.heap.size+1,0,none⟩),.pointer (some ⟨w.heap.size+1+1,0,none⟩),.pointer (some ⟨w.heap.size+1+1+1,0,none⟩),.pointer (some ⟨w.heap.size+1+1+1+1,0,none⟩),.pointer (some ⟨w.heap.size+1+1+1+1+1,0,none⟩),.pointer (some ⟨w.heap.size+1+1+1+1+1+1,0,none⟩),.pointer (some ⟨w.heap.size+1+1+1+1+1+1+1,0,none⟩),.int .i64 z.1.1,.int .i64 z.1.2,undef,undef,.pointer (some ⟨hb,0,none⟩),.agg #[.int .i64 a,.int .i64 b],.func (.func 275) #[] #[.pointer (some ⟨p,0,none⟩),.pointer (some ⟨q,0,none⟩)],.int .i64 z.1.1,.int .i64 z.1.2,.pointer (some ⟨hb,0,none⟩),.int .i64 z.1.1,.int .i64 (X.t.by_ z.1.1 TK.length),.pointer (some ⟨hb,0,none⟩),.int .i64 z.1.2,.int .i64 (X.t.by_ z.1.2 TK.length),.bool (X.t.by_ z.1.1 TK.length != X.t.by_ z.1.2 TK.length),undef,undef,undef,undef,undef,undef,undef,undef,undef,undef,undef,undef,undef,undef,undef,undef,undef,undef,undef],defers:=[] } W2 by
   have HSK:=hide hK
   clear hK
   gi_region_with (refine ⟨trivial,(CallsIn.inRound l (callsIn_wide.2 (HGR.out _ _ (by assumption) (by assumption) (by assumption)))).mono ?_⟩;rintro e wa ⟨rfl,hxa,hka,hxa2⟩;have cka:=cell_of_block hka 0;have HXA:=hide hxa2;clear hxa2)
   all_goals
    rename_i wq h1 h2 h3 HQ
    exact HSK.out _ (((Ext.refl (fun _=>False) W).drew.trans HQ.out).trans HXA.out)
  intro W2 hx2
  refine aK _ _ ?_
  clear aK
  have hBW2:Below w.heap.size w W2:=HB.out.trans (below_ext hx2 HB.out.size)
  have HBW2:=hide hBW2
  have HX2:=hide hx2
  have r2:W2.heap[w.heap.size+1+1]?=some (.cells #[.int .i64 0] 3):=(hx2.block _ (block_lt I2.out) (fun f=>f)).trans I2.out
  have r3:W2.heap[w.heap.size+1+1+1]?=some (.cells #[.int .i64 0] 3):=(hx2.block _ (block_lt I3.out) (fun f=>f)).trans I3.out
  have r4:W2.heap[w.heap.size+1+1+1+1]?=some (.cells #[.bool false] 4):=(hx2.block _ (block_lt I4.out) (fun f=>f)).trans I4.out
  have r5:W2.heap[w.heap.size+1+1+1+1+1]?=some (.cells #[.int .i64 i] 3):=(hx2.block _ (block_lt I5.out) (fun f=>f)).trans I5.out
  have r6:W2.heap[w.heap.size+1+1+1+1+1+1]?=some (.cells #[.int .i64 j] 3):=(hx2.block _ (block_lt I6.out) (fun f=>f)).trans I6.out
  have r7:W2.heap[w.heap.size+1+1+1+1+1+1+1]?=some (.cells #[.bool s] 4):=(hx2.block _ (block_lt I7.out) (fun f=>f)).trans I7.out
  have r0:W2.heap[w.heap.size]?=some (.cells #[.pointer (some ⟨hb,0,none⟩)] 139):=(hx2.block _ (block_lt I0.out) (fun f=>f)).trans I0.out
  have e0:=cell_of_block r0 0
  have e2:=cell_of_block r2 0
  have e3:=cell_of_block r3 0
  have e4:=cell_of_block r4 0
  have f2:=frozen_of_block r2 0
  have f3:=frozen_of_block r3 0
  have f4:=frozen_of_block r4 0
  have l2:=block_lt r2
  have l3:=block_lt r3
  have l4:=block_lt r4
  have R2:=hide r2
  have R3:=hide r3
  have R4:=hide r4
  have R5:=hide r5
  have R6:=hide r6
  have R7:=hide r7
  obtain ⟨r,hr⟩:∃ r,(X.t.by_ z.1.1 TK.length != X.t.by_ z.1.2 TK.length)=r:=⟨_,rfl⟩
  rw [hr]
  have HR:=hide hr
  have hxw2:Ext (fun _=>False) w W2:=Ext.ofBelow hBW2
  have HXW2:=hide hxw2
  clear hr hx2 hBW2 r0 r2 r3 r4 r5 r6 r7 hxw2 id0 ixd c0
  cases r with
  | true =>
   gi_wp2
   have hge:¬GE X.t z:=by have:=HR.out;unfold GE;simpa using this
   refine ⟨?_,⟨rfl,?_,?_,?_,z,by simp,hge⟩,?_⟩
   ·exact (KeepsOthers.of_ext HX2.out).trans (((KeepsOthers.setCell _ _ _).trans (KeepsOthers.setCell _ _ _)).trans (KeepsOthers.setCell _ _ _))
   ·exact (setCell_block _ _ (by show ¬w.heap.size+2=w.heap.size+1+1+1+1;omega)).trans ((setCell_block _ _ (by show ¬w.heap.size+2=w.heap.size+1+1+1;omega)).trans (block_setCell R2.out 0 _))
   ·exact (setCell_block _ _ (by show ¬w.heap.size+3=w.heap.size+1+1+1+1;omega)).trans (block_setCell ((setCell_block _ _ (by show ¬w.heap.size+3=w.heap.size+1+1;omega)).trans R3.out) 0 _)
   ·exact block_setCell ((setCell_block _ _ (by show ¬w.heap.size+4=w.heap.size+1+1+1;omega)).trans ((setCell_block _ _ (by show ¬w.heap.size+4=w.heap.size+1+1;omega)).trans R4.out)) 0 _
   ·exact ((HBW2.out.setCell (p:=⟨w.heap.size+1+1,0,none⟩) (by show w.heap.size<=w.heap.size+1+1;omega) _).setCell (p:=⟨w.heap.size+1+1+1,0,none⟩) (by show w.heap.size<=w.heap.size+1+1+1;omega) _).setCell (p:=⟨w.heap.size+1+1+1+1,0,none⟩) (by show w.heap.size<=w.heap.size+1+1+1+1;omega) _
  | false =>
   have hge:GE X.t z:=by have:=HR.out;unfold GE;simpa using this
   have HGE:=hide hge
   clear hge e2 e3 e4 f2 f3 f4
   gi_wp2
   refine ⟨trivial,(CallsIn.inRound l (callsIn_wide.2 (HNOW.out W2 HXW2.out))).mono ?_⟩
   rintro e W3 ⟨rfl,rfl⟩
   gi_wp2
   refine ⟨trivial,(CallsIn.inRound l (callsIn_wide.2 (HEQ.out W2.drew z HXW2.out.drew))).mono ?_⟩
   rintro e W4 ⟨hx4,mk,same,rfl,hke⟩
   have hx24:Ext (fun _=>False) W2 W4:=((Ext.refl (fun _=>False) W2).drew).trans hx4
   have r5:W4.heap[w.heap.size+1+1+1+1+1]?=some (.cells #[.int .i64 i] 3):=(hx24.block _ (block_lt R5.out) (fun f=>f)).trans R5.out
   have r6:W4.heap[w.heap.size+1+1+1+1+1+1]?=some (.cells #[.int .i64 j] 3):=(hx24.block _ (block_lt R6.out) (fun f=>f)).trans R6.out
   have r7:W4.heap[w.heap.size+1+1+1+1+1+1+1]?=some (.cells #[.bool s] 4):=(hx24.block _ (block_lt R7.out) (fun f=>f)).trans R7.out
   have e5:=cell_of_block r5 0
   have e6:=cell_of_block r6 0
   have e7:=cell_of_block r7 0
   have f5:=frozen_of_block r5 0
   have f6:=frozen_of_block r6 0
   have f7:=frozen_of_block r7 0
   have l5:=block_lt r5
   have l6:=block_lt r6
   have l7:=block_lt r7
   have Q5:=hide r5
   have Q6:=hide r6
   have Q7:=hide r7
   have HX4:=hide (HX2.out.trans hx24)
   have HB4:=hide (HBW2.out.trans (below_ext hx24 HBW2.out.size))
   have hx5:Ext (fun _=>False) W2 (W4.alloc (.cells #[.int .u64 mk.a.toNat,.int .u64 mk.b.toNat,.int .u64 mk.c.toNat] 197)):=hx24.alloc _
   have R5:=hide ((hx5.block _ (block_lt R5.out) (fun f=>f)).trans R5.out)
   have R6:=hide ((hx5.block _ (block_lt R6.out) (fun f=>f)).trans R6.out)
   have R7:=hide ((hx5.block _ (block_lt R7.out) (fun f=>f)).trans R7.out)
   have HKE:=hide hke
   have hxT:Ext (fun _=>False) W (W4.alloc (.cells #[.int .u64 mk.a.toNat,.int .u64 mk.b.toNat,.int .u64 mk.c.toNat] 197)):=HX2.out.trans hx5
   have HXT:=hide hxT
   have hBT:Below w.heap.size w (W4.alloc (.cells #[.int .u64 mk.a.toNat,.int .u64 mk.b.toNat,.int .u64 mk.c.toNat] 197)):=HBW2.out.trans (below_ext hx5 HBW2.out.size)
   have HBT:=hide hBT
   have hp':¬p=w.heap.size+5/\¬p=w.heap.size+6/\¬p=w.heap.size+7:=by omega
   have hq':¬q=w.heap.size+5/\¬q=w.heap.size+6/\¬q=w.heap.size+7:=by omega
   have keep0:∀ k,k < W.heap.size->(W4.alloc (.cells #[.int .u64 mk.a.toNat,.int .u64 mk.b.toNat,.int .u64 mk.c.toNat] 197)).heap[k]?=W.heap[k]?:=fun k hk=>hxT.block k hk (fun f=>f)
   have HK0:=hide keep0
   clear hx4 hx24 hx5 r5 r6 r7 hke hxT hBT keep0 e0
   cases same with
   | true =>
    gi_wp2
    have hk2:=HKE.out.1 (by simp)
    have hS2:ChI X.t (pre++[z]) i j s:=by
     cases s with
     | true=>exact HS.out.kept HGE.out
     | false=>exact HS.out.eq HGE.out hk2
    exact ⟨KeepsOthers.of_ext HXT.out,⟨HK0.out p (block_lt IP.out),HK0.out q (block_lt IQ.out)⟩,⟨(HK0.out p (block_lt IP.out)).trans IP.out,(HK0.out q (block_lt IQ.out)).trans IQ.out,(HK0.out _ (block_lt I0.out)).trans I0.out,(HK0.out _ (block_lt I2.out)).trans I2.out,(HK0.out _ (block_lt I3.out)).trans I3.out,(HK0.out _ (block_lt I4.out)).trans I4.out,i,j,s,R5.out,R6.out,R7.out,hS2⟩,HBT.out⟩
   | false =>
    have hk2:¬KE X.t z:=fun e=>by have:=HKE.out.2 e;simp at this
    have HK2:=hide hk2
    clear hk2
    cases s with
    | true =>
     gi_wp2
     exact ⟨KeepsOthers.of_ext HXT.out,⟨HK0.out p (block_lt IP.out),HK0.out q (block_lt IQ.out)⟩,⟨(HK0.out p (block_lt IP.out)).trans IP.out,(HK0.out q (block_lt IQ.out)).trans IQ.out,(HK0.out _ (block_lt I0.out)).trans I0.out,(HK0.out _ (block_lt I2.out)).trans I2.out,(HK0.out _ (block_lt I3.out)).trans I3.out,(HK0.out _ (block_lt I4.out)).trans I4.out,i,j,true,R5.out,R6.out,R7.out,HS.out.kept HGE.out⟩,HBT.out⟩
    | false =>
     gi_wp2
     have keep:∀ k,k < W.heap.size->¬k=w.heap.size+5->¬k=w.heap.size+6->¬k=w.heap.size+7->((((W4.setCell ⟨w.heap.size+1+1+1+1+1,0,none⟩ (.int .i64 z.1.1)).setCell ⟨w.heap.size+1+1+1+1+1+1,0,none⟩ (.int .i64 z.1.2)).setCell ⟨w.heap.size+1+1+1+1+1+1+1,0,none⟩ (.bool true)).alloc (.cells #[.int .u64 mk.a.toNat,.int .u64 mk.b.toNat,.int .u64 mk.c.toNat] 197)).heap[k]?=W.heap[k]?:=by
      intro k hk n5 n6 n7
      have hk4:k < W4.heap.size:=Nat.lt_of_lt_of_le hk HX4.out.size
      exact (heap_alloc_old _ _ (by simpa using hk4)).trans ((setCell_block _ _ (by show ¬k=w.heap.size+1+1+1+1+1+1+1;omega)).trans ((setCell_block _ _ (by show ¬k=w.heap.size+1+1+1+1+1+1;omega)).trans ((setCell_block _ _ (by show ¬k=w.heap.size+1+1+1+1+1;omega)).trans (HX4.out.block k hk (fun f=>f)))))
     have kk0:=keep _ (block_lt I0.out) (by omega) (by omega) (by omega)
     have kk2:=keep _ (block_lt I2.out) (by omega) (by omega) (by omega)
     have kk3:=keep _ (block_lt I3.out) (by omega) (by omega) (by omega)
     have kk4:=keep _ (block_lt I4.out) (by omega) (by omega) (by omega)
     have kkp:=keep p (block_lt IP.out) hp'.1 hp'.2.1 hp'.2.2
     have kkq:=keep q (block_lt IQ.out) hq'.1 hq'.2.1 hq'.2.2
     refine ⟨(KeepsOthers.of_ext HX4.out).trans ((((KeepsOthers.setCell _ _ _).trans (KeepsOthers.setCell _ _ _)).trans (KeepsOthers.setCell _ _ _)).trans (KeepsOthers.alloc _ _)),⟨kkp,kkq⟩,⟨kkp.trans IP.out,kkq.trans IQ.out,kk0.trans I0.out,kk2.trans I2.out,kk3.trans I3.out,kk4.trans I4.out,z.1.1,z.1.2,true,?_,?_,?_,HS.out.new HGE.out HK2.out⟩,?_⟩
     ·exact (heap_alloc_old _ _ (by simpa using l5)).trans ((setCell_block _ _ (by show ¬w.heap.size+5=w.heap.size+1+1+1+1+1+1+1;omega)).trans ((setCell_block _ _ (by show ¬w.heap.size+5=w.heap.size+1+1+1+1+1+1;omega)).trans (block_setCell Q5.out 0 _)))
     ·exact (heap_alloc_old _ _ (by simpa using l6)).trans ((setCell_block _ _ (by show ¬w.heap.size+6=w.heap.size+1+1+1+1+1+1+1;omega)).trans (block_setCell ((setCell_block _ _ (by show ¬w.heap.size+6=w.heap.size+1+1+1+1+1;omega)).trans Q6.out) 0 _))
     ·exact (heap_alloc_old _ _ (by simpa using l7)).trans (block_setCell ((setCell_block _ _ (by show ¬w.heap.size+7=w.heap.size+1+1+1+1+1+1;omega)).trans ((setCell_block _ _ (by show ¬w.heap.size+7=w.heap.size+1+1+1+1+1;omega)).trans Q7.out)) 0 _)
     ·exact (((HB4.out.setCell (p:=⟨w.heap.size+1+1+1+1+1,0,none⟩) (by show w.heap.size<=w.heap.size+1+1+1+1+1;omega) _).setCell (p:=⟨w.heap.size+1+1+1+1+1+1,0,none⟩) (by show w.heap.size<=w.heap.size+1+1+1+1+1+1;omega) _).setCell (p:=⟨w.heap.size+1+1+1+1+1+1+1,0,none⟩) (by show w.heap.size<=w.heap.size+1+1+1+1+1+1+1;omega) _).alloc (by simp;exact HB4.out.size) _
 case done =>
  rintro D ys W hD rfl ⟨⟨ip,iq,i0,i2,i3,i4,i,j,s,i5,i6,i7,hS⟩,hB⟩ hK
  have c5:=cell_of_block i5 0
  have c6:=cell_of_block i6 0
  have c7:=cell_of_block i7 0
  have e2:=cell_of_block i2 0
  have e3:=cell_of_block i3 0
  have e4:=cell_of_block i4 0
  have f2:=frozen_of_block i2 0
  have f3:=frozen_of_block i3 0
  have f4:=frozen_of_block i4 0
  have hDw:w.heap.size<=D:=Nat.le_trans hB1.size hD
  obtain ⟨Wf,hWf⟩:∃ Wf,(((W.setCell ⟨w.heap.size+1+1,0,none⟩ (.int .i64 i)).setCell ⟨w.heap.size+1+1+1,0,none⟩ (.int .i64 j)).setCell ⟨w.heap.size+1+1+1+1,0,none⟩ (.bool s)).drew=Wf:=⟨_,rfl⟩
  have hKf:Wf.heap[D]?=some (.deferred (some [])):=by
   rw [<- hWf]
   show (((W.setCell ⟨w.heap.size+1+1,0,none⟩ (.int .i64 i)).setCell ⟨w.heap.size+1+1+1,0,none⟩ (.int .i64 j)).setCell ⟨w.heap.size+1+1+1+1,0,none⟩ (.bool s)).heap[D]?=_
   exact (KeepsOthers.setCell _ _ _).same D _ ((KeepsOthers.setCell _ _ _).same D _ ((KeepsOthers.setCell _ _ _).same D _ hK rfl) rfl) rfl
  have b2:Wf.heap[w.heap.size+1+1]?=some (.cells #[.int .i64 i] 3):=by
   rw [<- hWf]
   show (((W.setCell ⟨w.heap.size+1+1,0,none⟩ (.int .i64 i)).setCell ⟨w.heap.size+1+1+1,0,none⟩ (.int .i64 j)).setCell ⟨w.heap.size+1+1+1+1,0,none⟩ (.bool s)).heap[w.heap.size+1+1]?=_
   exact (setCell_block _ _ (by show ¬w.heap.size+1+1=w.heap.size+1+1+1+1;omega)).trans ((setCell_block _ _ (by show ¬w.heap.size+1+1=w.heap.size+1+1+1;omega)).trans (block_setCell i2 0 _))
  have b3:Wf.heap[w.heap.size+1+1+1]?=some (.cells #[.int .i64 j] 3):=by
   rw [<- hWf]
   show (((W.setCell ⟨w.heap.size+1+1,0,none⟩ (.int .i64 i)).setCell ⟨w.heap.size+1+1+1,0,none⟩ (.int .i64 j)).setCell ⟨w.heap.size+1+1+1+1,0,none⟩ (.bool s)).heap[w.heap.size+1+1+1]?=_
   exact (setCell_block _ _ (by show ¬w.heap.size+1+1+1=w.heap.size+1+1+1+1;omega)).trans (block_setCell ((setCell_block _ _ (by show ¬w.heap.size+1+1+1=w.heap.size+1+1;omega)).trans i3) 0 _)
  have b4:Wf.heap[w.heap.size+1+1+1+1]?=some (.cells #[.bool s] 4):=by
   rw [<- hWf]
   show (((W.setCell ⟨w.heap.size+1+1,0,none⟩ (.int .i64 i)).setCell ⟨w.heap.size+1+1+1,0,none⟩ (.int .i64 j)).setCell ⟨w.heap.size+1+1+1+1,0,none⟩ (.bool s)).heap[w.heap.size+1+1+1+1]?=_
   exact block_setCell ((setCell_block _ _ (by show ¬w.heap.size+1+1+1+1=w.heap.size+1+1+1;omega)).trans ((setCell_block _ _ (by show ¬w.heap.size+1+1+1+1=w.heap.size+1+1;omega)).trans i4)) 0 _
  have hBf:Below w.heap.size w Wf:=by
   have h1:Below w.heap.size w (((W.setCell ⟨w.heap.size+1+1,0,none⟩ (.int .i64 i)).setCell ⟨w.heap.size+1+1+1,0,none⟩ (.int .i64 j)).setCell ⟨w.heap.size+1+1+1+1,0,none⟩ (.bool s)):=((hB.setCell (p:=⟨w.heap.size+1+1,0,none⟩) (by show w.heap.size<=w.heap.size+1+1;omega) _).setCell (p:=⟨w.heap.size+1+1+1,0,none⟩) (by show w.heap.size<=w.heap.size+1+1+1;omega) _).setCell (p:=⟨w.heap.size+1+1+1+1,0,none⟩) (by show w.heap.size<=w.heap.size+1+1+1+1;omega) _
   rw [<- hWf]
   exact ⟨h1.os,h1.tape,h1.output,h1.size,h1.block⟩
  have HWF:=hide hWf
  have g2:=block_kept b2 (grownBy_putObj' Wf D (.deferred none)) (fun r e=>by cases e;exact ⟨_,hKf,rfl⟩)
  have g3:=block_kept b3 (grownBy_putObj' Wf D (.deferred none)) (fun r e=>by cases e;exact ⟨_,hKf,rfl⟩)
  have g4:=block_kept b4 (grownBy_putObj' Wf D (.deferred none)) (fun r e=>by cases e;exact ⟨_,hKf,rfl⟩)
  have z2:=cell_of_block g2 0
  have z3:=cell_of_block g3 0
  have z4:=cell_of_block g4 0
  clear hWf ip iq i0 i2 i3 i4 i5 i6 i7 b2 b3 b4 g2 g3 g4
  gi_wp2
  gi_region_with fail
  all_goals
   gi_wp2
   rw [HWF.out]
   refine ⟨by simp,.inl ⟨_,_,rfl,run_takeDeferred hKf,?_⟩⟩
   refine ⟨.tuple #[.int .i64 i,.int .i64 j,.bool s],?_,i,j,s,rfl,hBf.trans (belowK_b (w:=w) (Nat.le_refl _) Wf D _ _ hDw hKf rfl rfl),fun e=>?_,fun e=>?_⟩
   ·simp [results,Tryz.results265,go_sem,z2,z3,z4]
   ·obtain ⟨u,h1,h2,h3⟩:=hS.yes e
    exact ⟨u,h1,h2,hS.ge u h1,h3⟩
   ·exact .inr (hS.no e)
 case stop =>
  rintro D c pre W hD ⟨k,hk,rfl⟩ ⟨⟨rfl,i2,i3,i4,z,hz,hn⟩,hB⟩ hK
  have hDw:w.heap.size<=D:=Nat.le_trans hB1.size hD
  have g2:(W.putObj D (.deferred none)).heap[w.heap.size+1+1]?=some (.cells #[.int .i64 0] 3):=block_kept i2 (grownBy_putObj' W D (.deferred none)) (fun r e=>by cases e;exact ⟨_,hK,rfl⟩)
  have g3:(W.putObj D (.deferred none)).heap[w.heap.size+1+1+1]?=some (.cells #[.int .i64 0] 3):=block_kept i3 (grownBy_putObj' W D (.deferred none)) (fun r e=>by cases e;exact ⟨_,hK,rfl⟩)
  have g4:(W.putObj D (.deferred none)).heap[w.heap.size+1+1+1+1]?=some (.cells #[.bool false] 4):=block_kept i4 (grownBy_putObj' W D (.deferred none)) (fun r e=>by cases e;exact ⟨_,hK,rfl⟩)
  have z2:=cell_of_block g2 0
  have z3:=cell_of_block g3 0
  have z4:=cell_of_block g4 0
  gi_wp2
  refine ⟨by simp,.inl ⟨_,_,rfl,run_takeDeferred hK,?_⟩⟩
  refine ⟨.tuple #[.int .i64 0,.int .i64 0,.bool false],?_,0,0,false,rfl,hB.trans (belowK_b (w:=w) (Nat.le_refl _) W D _ _ hDw hK rfl rfl),fun e=>by simp at e,fun _=>.inl ⟨z,List.mem_of_mem_take hz,hn⟩⟩
  simp [results,Tryz.results265,go_sem,z2,z3,z4]
theorem chance_any (h:ThR w hb g c TK AK tw As (TT++[X])) {a b:Nat} {x y:TKey} (hx:TK[a]?=some x) (hy:TK[b]?=some y) (hT:TK.length<=12) (hl:TT.length<=500) {ar:Nat} {zs:List (PN2 TK.length)} (hP:Prs x y ar zs) :
  Calls Tryz.prog 265 #[.pointer (some ⟨hb,0,none⟩),.agg #[.int .i64 a,.int .i64 b]] w fun e w'=>∃ (i j:Nat) (s:Bool),e=.returned (.tuple #[.int .i64 i,.int .i64 j,.bool s])/\Ext (fun _=>False) w w'/\(s=true->∃ z∈zs,z.1=(i,j)/\GE X.t z/\¬KE X.t z)/\(s=false->(∃ z∈zs,¬GE X.t z)\/∀ z∈zs,KE X.t z) :=
 (callsIn_wide.1 (chance_in h hx hy hT hl hP)).mono (fun _ _ ⟨i,j,s,h1,h2,h3⟩=>⟨i,j,s,h1,Ext.ofBelow h2,h3⟩)
end
end Go.Proofs.YtegbdaffhpiacaaGreatDoor

namespace Go.Proofs.YtegbdaffhpiacaaGreatDoor
open Go.RowKit Ar
theorem size_any (n:Int) (h : -1000000<=n/\n<=1000000) (w:World):Calls Tryz.prog 138 #[.int .i64 n] w fun e w'=>e=.returned (.int .i64 (max n (-n)))/\w' = w:=by
 go_enter Tryz.func138,Tryz.ntmps138
 go_wp2_with fail
 go_ret
 exact ⟨by go_num,rfl⟩
theorem grT_take {TK:List TKey} {k:Nat} {x:TKey} (h:TK[k]?=some x) (m:Int):grT (TK.take (k+1)) m=max (grT (TK.take k) m) (max x.v (-x.v)):=by
 unfold grT
 rw [List.take_add_one,h,List.foldl_append]
 rfl
theorem grA_take {AK:List PA} {k:Nat} {x:PA} (h:AK[k]?=some x) (m:Int):grA (AK.take (k+1)) m=max (grA (AK.take k) m) (max x.b (-x.b)):=by
 unfold grA
 rw [List.take_add_one,h,List.foldl_append]
 rfl
section
variable {w:World} {TK:List TKey} {AK:List PA} {tv av:Value}
set_option maxRecDepth 10000 in
set_option maxHeartbeats 1000000 in
theorem reach_any (hts:w.ownsRow 0 145 6 tv TK.length (TK.flatMap TKey.cells)) (hat:w.ownsRow 0 153 4 av AK.length (AK.flatMap PA.cells)) (hT:TK.length<=12) (hA:AK.length<=16) (hv:∀ x∈TK,-1000<=x.v/\x.v<=1000) (hb:∀ x∈AK,-1000<=x.b/\x.b<=1000) :
  Calls Tryz.prog 98 #[tv,av] w fun e w'=>e=.returned (.int .i64 (farOf TK AK))/\Ext (fun _=>False) w w':=by
 obtain ⟨ta,tc,rfl⟩:=row_shape hts
 obtain ⟨aa,ac,rfl⟩:=row_shape hat
 have HT:=hide hts
 have HA:=hide hat
 have HV:=hide hv
 have HB:=hide hb
 clear hts hat hv hb
 go_enter Tryz.func98,Tryz.ntmps98
 go_wp2_with fail
 go_loopw [5,12] (fun m i wr=>∃ j:Nat,j<=TK.length/\i=.int .i64 j/\m=.int .i64 (grT (TK.take j) 0)/\Ext (fun _=>False) w wr) (fun _ i _=>TK.length - (intOf i).toNat)
 case atStart=>exact ⟨0,Nat.zero_le _,rfl,rfl,Ext.refl _ _⟩
 case round =>
  obtain ⟨j,hj,rfl,rfl,hx⟩:=hrel
  have HX:=hide hx
  clear hx
  obtain ⟨t1,t2,_⟩:=grT_le (TK:=TK.take j) (m:=0) (B:=1000) (by omega) (fun x hx=>HV.out x (List.mem_of_mem_take hx))
  by_cases hlt:j < TK.length
  ·obtain ⟨x,hxj⟩:∃ x,TK[j]?=some x:=⟨_,List.getElem?_eq_getElem hlt⟩
   obtain ⟨gt,rfl,hgl⟩:∃ gt,ta=some ⟨gt,0,none⟩/\gt < w.heap.size:=by
    rcases HT.out.2 with ⟨e,e0⟩ | ⟨g',cap,cur,hv,_,hh,_⟩
    ·omega
    ·simp at hv;exact ⟨g',hv.1,block_lt hh⟩
   have ho:=own_ext HT.out HX.out (fun _ _ f=>f)
   have x0:wr.cell? ⟨gt,j * 6,none⟩=some (.string x.nm):=(ho.cellAt (j * 6) (by omega)).trans (tk_cells hxj (j:=0) rfl)
   have x1:wr.cell? ⟨gt,j * 6+1,none⟩=some (.int .i64 x.ar):=(ho.cellAt (j * 6+1) (by omega)).trans (tk_cells hxj rfl)
   have x2:wr.cell? ⟨gt,j * 6+2,none⟩=some (.int .i64 x.a0):=(ho.cellAt (j * 6+2) (by omega)).trans (tk_cells hxj rfl)
   have x3:wr.cell? ⟨gt,j * 6+3,none⟩=some (.int .i64 x.a1):=(ho.cellAt (j * 6+3) (by omega)).trans (tk_cells hxj rfl)
   have x4:wr.cell? ⟨gt,j * 6+4,none⟩=some (.int .i64 x.a2):=(ho.cellAt (j * 6+4) (by omega)).trans (tk_cells hxj rfl)
   have x5:wr.cell? ⟨gt,j * 6+5,none⟩=some (.int .i64 x.v):=(ho.cellAt (j * 6+5) (by omega)).trans (tk_cells hxj rfl)
   have hxv:=HV.out x (List.mem_of_getElem? hxj)
   have HN:=hide (grT_take hxj 0)
   have HS:=hide (size_any x.v (by omega))
   clear ho hxj
   go_wp2_with fail
   refine (HS.out _).mono ?_
   rintro e w2 ⟨rfl,rfl⟩
   go_wp2_with fail
   go_roundw
   case measure=>simp [intOf];omega
   case rel=>exact ⟨j+1,by omega,by go_num,by rw [HN.out],HX.out.alloc _⟩
  ·have hjk:j=TK.length:=by omega
   subst hjk
   rw [List.take_length]
   rw [List.take_length] at t1 t2
   obtain ⟨m0,hm0⟩:∃ m0,grT TK 0=m0:=⟨_,rfl⟩
   rw [hm0] at t1 t2
   rw [hm0]
   go_wp2_with fail
   go_loopw [5,24] (fun m i wr=>∃ j:Nat,j<=AK.length/\i=.int .i64 j/\m=.int .i64 (grA (AK.take j) m0)/\Ext (fun _=>False) w wr) (fun _ i _=>AK.length - (intOf i).toNat)
   case atStart=>exact ⟨0,Nat.zero_le _,rfl,rfl,HX.out⟩
   case round =>
    obtain ⟨j,hj,rfl,rfl,hx⟩:=hrel
    have HX2:=hide hx
    clear hx
    obtain ⟨s1,s2,_⟩:=grA_le (AK:=AK.take j) (m:=m0) (B:=1000) (by omega) (fun x hx=>HB.out x (List.mem_of_mem_take hx))
    by_cases hlt:j < AK.length
    ·obtain ⟨x,hxj⟩:∃ x,AK[j]?=some x:=⟨_,List.getElem?_eq_getElem hlt⟩
     obtain ⟨gt,rfl,hgl⟩:∃ gt,aa=some ⟨gt,0,none⟩/\gt < w.heap.size:=by
      rcases HA.out.2 with ⟨e,e0⟩ | ⟨g',cap,cur,hv,_,hh,_⟩
      ·omega
      ·simp at hv;exact ⟨g',hv.1,block_lt hh⟩
     have ho:=own_ext HA.out HX2.out (fun _ _ f=>f)
     have x0:wr.cell? ⟨gt,j * 4,none⟩=some (.string x.wd):=(ho.cellAt (j * 4) (by omega)).trans (pa_cells hxj (j:=0) rfl)
     have x1:wr.cell? ⟨gt,j * 4+1,none⟩=some (.int .i64 x.i):=(ho.cellAt (j * 4+1) (by omega)).trans (pa_cells hxj rfl)
     have x2:wr.cell? ⟨gt,j * 4+2,none⟩=some (.int .i64 x.j):=(ho.cellAt (j * 4+2) (by omega)).trans (pa_cells hxj rfl)
     have x3:wr.cell? ⟨gt,j * 4+3,none⟩=some (.int .i64 x.b):=(ho.cellAt (j * 4+3) (by omega)).trans (pa_cells hxj rfl)
     have hxv:=HB.out x (List.mem_of_getElem? hxj)
     have HN:=hide (grA_take hxj m0)
     have HS:=hide (size_any x.b (by omega))
     clear ho hxj
     go_wp2_with fail
     refine (HS.out _).mono ?_
     rintro e w2 ⟨rfl,rfl⟩
     go_wp2_with fail
     go_roundw
     case measure=>simp [intOf];omega
     case rel=>exact ⟨j+1,by omega,by go_num,by rw [HN.out],HX2.out.alloc _⟩
    ·have hjk:j=AK.length:=by omega
     subst hjk
     rw [List.take_length]
     rw [List.take_length] at s1 s2
     have hfar:farOf TK AK=(TK.length:Int) * (grA AK m0+1):=by unfold farOf;rw [hm0]
     obtain ⟨m1,hm1⟩:∃ m1,grA AK m0=m1:=⟨_,rfl⟩
     rw [hm1] at s1 s2 hfar
     have HFAR:=hide hfar
     rw [hm1]
     have hp1:(0:Int)<=(TK.length:Int) * (m1+1):=Int.mul_nonneg (by omega) (by omega)
     have hp2:(TK.length:Int) * (m1+1)<=12 * 1001:=Int.mul_le_mul (by omega) (by omega) (by omega) (by omega)
     clear hfar hm1
     go_wp2_with fail
     go_ret
     exact ⟨by rw [HFAR.out];go_num,HX2.out⟩
end
end Go.Proofs.YtegbdaffhpiacaaGreatDoor
