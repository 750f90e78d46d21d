/- A table of bounds in memory: what an answer about an atom says, taken in. -/
import Derived.Test.YtegbdaffhpiacaaGreatDoorBck23
namespace Go.Proofs.YtegbdaffhpiacaaGreatDoor
open Go.RowKit Ar
section
variable {w:World} {g o n:Nat} {C:Array Value} {X:Y5} {mw:M3} {far:Int} {V:(Nat->Int)->Prop} {H:Nat->(Nat->Int)->Prop} {K:Nat}
theorem TC.more {W w':World} {R:Y5->Prop} {e:Ending} (hx:q9 (fun _=>False) w W) (h:TC W g o n C far V H K X R e w'):TC w g o n C far V H K X R e w':=by
 obtain ⟨Y,ok,h1,h2,h3,h4⟩:=h
 exact ⟨Y,ok,h1,U6.trans (hx.mono (fun _ _ f=>f.elim)) (X7.refl _ _) h2,h3,h4⟩
theorem ql0 {T:Tb} {x:At} (h:x.wd=[61]) (h2:T.by_ x.i x.j<=0/\T.by_ x.j x.i<=0):U3 T (x,true):=by
 show (if x.wd=[61] then _ else _)
 rw [if_pos h];exact fun _=>h2
theorem ql1 {T:Tb} {x:At} (h:x.wd=[61]):U3 T (x,false):=by
 show (if x.wd=[61] then _ else _)
 rw [if_pos h];exact fun e=>by simp at e
theorem zv3 {T:Tb} {x:At} (h:x.wd ≠ [61]) (h2:T.by_ x.i x.j<=x.ex):U3 T (x,true):=by
 show (if x.wd=[61] then _ else _)
 rw [if_neg h];show (if true=true then _ else _);rw [if_pos rfl];exact h2
theorem zv4 {T:Tb} {x:At} (h:x.wd ≠ [61]) (h2:T.by_ x.j x.i <= -x.ex - 1):U3 T (x,false):=by
 show (if x.wd=[61] then _ else _)
 rw [if_neg h];show (if false=true then _ else _);rw [if_neg (by decide)];exact h2
set_option maxRecDepth 100000 in
set_option maxHeartbeats 1000000 in
theorem jh6 {i j:Nat} {b:Int} (kb:w.heap[g]?=some (.cells C 203)) (hT:J9 C o n X) (hn:n<=13) (hi:i < n) (hj:j < n) (hI:V4 n far V H K X.t) (hfar:far<=1000000) (hmk:J7 K mw) (hx:(PA.at_ ⟨⟨#[61]⟩,i,j,b⟩).Ok) (_hb : -1000<=b/\b<=1000) (hs:∀ v,V v->Hs H mw v->(PA.at_ ⟨⟨#[61]⟩,i,j,b⟩).tr v=true) :
  Calls Tryz.prog 260 #[.pointer (some ⟨g,o,none⟩),.agg #[.string ⟨#[61]⟩,.int .i64 i,.int .i64 j,.int .i64 b],.bool true,.agg #[.int .u64 mw.a.toNat,.int .u64 mw.b.toNat,.int .u64 mw.c.toNat]] w (TC w g o n C far V H K X (fun Y=>U3 Y.t (PA.at_ ⟨⟨#[61]⟩,i,j,b⟩,true))):=by
 obtain ⟨W,hW⟩:∃ W,(w.alloc (.cells #[.string ⟨#[61]⟩,.int .i64 i,.int .i64 j,.int .i64 b] 153)).alloc (.cells #[.int .u64 mw.a.toNat,.int .u64 mw.b.toNat,.int .u64 mw.c.toNat] 197)=W:=⟨_,rfl⟩
 have hxW:q9 (fun _=>False) w W:=by rw [<- hW];exact ((q9.refl _ w).alloc _).alloc _
 have kA:W.heap[w.heap.size]?=some (.cells #[.string ⟨#[61]⟩,.int .i64 i,.int .i64 j,.int .i64 b] 153):=by rw [<- hW,heap_alloc_old _ _ (by simp)];exact heap_alloc_new w _
 have kM:W.heap[w.heap.size+1]?=some (.cells #[.int .u64 mw.a.toNat,.int .u64 mw.b.toNat,.int .u64 mw.c.toNat] 197):=by rw [<- hW];exact heap_alloc2_new w _ _
 have hgl:=z8 kb
 have HAL:Hid ((PA.at_ ⟨⟨#[61]⟩,i,j,b⟩).wd=[61]):=qt7
 have hexe:(PA.at_ ⟨⟨#[61]⟩,i,j,b⟩).ex=b:=if_neg qJ9
 have HEX:=q8 (zb8 (w:=W.drew) ⟨⟨#[61]⟩,i,j,b⟩ hx)
 have HC:Hid (∀ W',q9 (fun _=>False) w W'->Calls Tryz.prog 267 #[.pointer (some ⟨g,o,none⟩),.int .i64 i,.int .i64 j,.agg #[.int .u64 mw.a.toNat,.int .u64 mw.b.toNat,.int .u64 mw.c.toNat]] W' (TC W' g o n C far V H K X (fun Y=>Y.t.by_ i j<=0/\Y.t.by_ j i<=0))) :=
  fun W' hx'=>zI3 ((hx'.block _ hgl (fun f=>f)).trans kb) hT hn hi hj hI hfar hmk (fun v hv hh=>by
   have:=hs v hv hh
   rw [At.tr_eq _ HAL.out] at this
   exact of_decide_eq_true this)
 have KB:=q8 kb
 have HT:=q8 hT
 have HI:=q8 hI
 have HXW:=q8 hxW
 have HWE:=q8 hW
 have KM:=q8 kM
 have a0:=z6 kA 0
 have a1:=z6 kA 1
 have a2:=z6 kA 2
 have a3:=z6 kA 3
 have KA:=q8 kA
 have HEXE:Hid ((PA.at_ ⟨⟨#[61]⟩,i,j,b⟩).ex=b):=hexe
 simp only at HEX
 rw [hexe] at HEX
 clear kb hT hI hs hxW hW kM kA hexe hx
 go_enter Tryz.func260,Tryz.ntmps260
 go_wp2_with fail
 rw [HWE.out]
 go_region_law (go_simp;go_wp2_with (go_at_call 266;refine HEX.out.mono ?_;rintro e w3 ⟨rfl,hx3⟩;have HX3:=q8 hx3;have k3:=(hx3.block _ (z8 KA.out) (fun f=>f)).trans KA.out;have b0:=z6 k3 0;have b1:=z6 k3 1;have b2:=z6 k3 2;have b3:=z6 k3 3;clear hx3 k3))
 all_goals
  have hxw3:q9 (fun _=>False) w w3:=HXW.out.trans (((q9.refl _ W).drew).trans HX3.out)
  have HX:=q8 hxw3
  have kM3:=((((q9.refl (fun _=>False) W).drew).trans HX3.out).block _ (z8 KM.out) (fun f=>f)).trans KM.out
  have m0:=z6 kM3 0
  have m1:=z6 kM3 1
  have m2:=z6 kM3 2
  clear hxw3 kM3 HEX a0 a1 a2 a3
  go_wp2_with fail
  refine (HC.out w3 HX.out).mono ?_
  rintro e w4 ⟨Y,ok,rfl,h2,h3,h4⟩
  have HF:Hid (TC w g o n C far V H K X (fun Y=>U3 Y.t (PA.at_ ⟨⟨#[61]⟩,i,j,b⟩,true)) (.returned (.bool ok)) w4):=TC.more HX.out ⟨Y,ok,rfl,h2,h3,fun e=>ql0 HAL.out (h4 e)⟩
  clear h2 h3 h4
  go_wp2_with fail
  go_ret
  exact HF.out
set_option maxRecDepth 100000 in
set_option maxHeartbeats 1000000 in
theorem jh7 {i j:Nat} {b:Int} (kb:w.heap[g]?=some (.cells C 203)) (hT:J9 C o n X) (_hn:n<=13) (_hi:i < n) (_hj:j < n) (hI:V4 n far V H K X.t) (_hfar:far<=1000000) (_hmk:J7 K mw) (hx:(PA.at_ ⟨⟨#[61]⟩,i,j,b⟩).Ok) (_hb : -1000<=b/\b<=1000) (_hs:∀ v,V v->Hs H mw v->(PA.at_ ⟨⟨#[61]⟩,i,j,b⟩).tr v=false) :
  Calls Tryz.prog 260 #[.pointer (some ⟨g,o,none⟩),.agg #[.string ⟨#[61]⟩,.int .i64 i,.int .i64 j,.int .i64 b],.bool false,.agg #[.int .u64 mw.a.toNat,.int .u64 mw.b.toNat,.int .u64 mw.c.toNat]] w (TC w g o n C far V H K X (fun Y=>U3 Y.t (PA.at_ ⟨⟨#[61]⟩,i,j,b⟩,false))):=by
 obtain ⟨W,hW⟩:∃ W,(w.alloc (.cells #[.string ⟨#[61]⟩,.int .i64 i,.int .i64 j,.int .i64 b] 153)).alloc (.cells #[.int .u64 mw.a.toNat,.int .u64 mw.b.toNat,.int .u64 mw.c.toNat] 197)=W:=⟨_,rfl⟩
 have hxW:q9 (fun _=>False) w W:=by rw [<- hW];exact ((q9.refl _ w).alloc _).alloc _
 have kA:W.heap[w.heap.size]?=some (.cells #[.string ⟨#[61]⟩,.int .i64 i,.int .i64 j,.int .i64 b] 153):=by rw [<- hW,heap_alloc_old _ _ (by simp)];exact heap_alloc_new w _
 have kM:W.heap[w.heap.size+1]?=some (.cells #[.int .u64 mw.a.toNat,.int .u64 mw.b.toNat,.int .u64 mw.c.toNat] 197):=by rw [<- hW];exact heap_alloc2_new w _ _
 have hgl:=z8 kb
 have HAL:Hid ((PA.at_ ⟨⟨#[61]⟩,i,j,b⟩).wd=[61]):=qt7
 have hexe:(PA.at_ ⟨⟨#[61]⟩,i,j,b⟩).ex=b:=if_neg qJ9
 have HEX:=q8 (zb8 (w:=W.drew) ⟨⟨#[61]⟩,i,j,b⟩ hx)
 have KB:=q8 kb
 have HT:=q8 hT
 have HI:=q8 hI
 have HXW:=q8 hxW
 have HWE:=q8 hW
 have KM:=q8 kM
 have a0:=z6 kA 0
 have a1:=z6 kA 1
 have a2:=z6 kA 2
 have a3:=z6 kA 3
 have KA:=q8 kA
 have HEXE:Hid ((PA.at_ ⟨⟨#[61]⟩,i,j,b⟩).ex=b):=hexe
 simp only at HEX
 rw [hexe] at HEX
 clear kb hT hI hxW hW kM kA hexe hx
 go_enter Tryz.func260,Tryz.ntmps260
 go_wp2_with fail
 rw [HWE.out]
 go_region_law (go_simp;go_wp2_with (go_at_call 266;refine HEX.out.mono ?_;rintro e w3 ⟨rfl,hx3⟩;have HX3:=q8 hx3;have k3:=(hx3.block _ (z8 KA.out) (fun f=>f)).trans KA.out;have b0:=z6 k3 0;have b1:=z6 k3 1;have b2:=z6 k3 2;have b3:=z6 k3 3;clear hx3 k3))
 all_goals
  have hxw3:q9 (fun _=>False) w w3:=HXW.out.trans (((q9.refl _ W).drew).trans HX3.out)
  have HX:=q8 hxw3
  have kM3:=((((q9.refl (fun _=>False) W).drew).trans HX3.out).block _ (z8 KM.out) (fun f=>f)).trans KM.out
  have m0:=z6 kM3 0
  have m1:=z6 kM3 1
  have m2:=z6 kM3 2
  clear hxw3 kM3 HEX a0 a1 a2 a3
  go_wp2_with fail
  go_ret
  exact ⟨X,true,rfl,⟨HX.out.mono (fun _ _ f=>f.elim),C,(HX.out.block _ hgl (fun f=>f)).trans KB.out,HT.out,X7.refl _ _⟩,TPost.refl HI.out,fun _=>ql1 HAL.out⟩
set_option maxRecDepth 100000 in
set_option maxHeartbeats 1000000 in
theorem jh8 {i j:Nat} {b:Int} (kb:w.heap[g]?=some (.cells C 203)) (hT:J9 C o n X) (hn:n<=13) (hi:i < n) (hj:j < n) (hI:V4 n far V H K X.t) (hfar:far<=1000000) (hmk:J7 K mw) (hx:(PA.at_ ⟨⟨#[60]⟩,i,j,b⟩).Ok) (_hb : -1000<=b/\b<=1000) (hs:∀ v,V v->Hs H mw v->(PA.at_ ⟨⟨#[60]⟩,i,j,b⟩).tr v=true) :
  Calls Tryz.prog 260 #[.pointer (some ⟨g,o,none⟩),.agg #[.string ⟨#[60]⟩,.int .i64 i,.int .i64 j,.int .i64 b],.bool true,.agg #[.int .u64 mw.a.toNat,.int .u64 mw.b.toNat,.int .u64 mw.c.toNat]] w (TC w g o n C far V H K X (fun Y=>U3 Y.t (PA.at_ ⟨⟨#[60]⟩,i,j,b⟩,true))):=by
 obtain ⟨W,hW⟩:∃ W,(w.alloc (.cells #[.string ⟨#[60]⟩,.int .i64 i,.int .i64 j,.int .i64 b] 153)).alloc (.cells #[.int .u64 mw.a.toNat,.int .u64 mw.b.toNat,.int .u64 mw.c.toNat] 197)=W:=⟨_,rfl⟩
 have hxW:q9 (fun _=>False) w W:=by rw [<- hW];exact ((q9.refl _ w).alloc _).alloc _
 have kA:W.heap[w.heap.size]?=some (.cells #[.string ⟨#[60]⟩,.int .i64 i,.int .i64 j,.int .i64 b] 153):=by rw [<- hW,heap_alloc_old _ _ (by simp)];exact heap_alloc_new w _
 have kM:W.heap[w.heap.size+1]?=some (.cells #[.int .u64 mw.a.toNat,.int .u64 mw.b.toNat,.int .u64 mw.c.toNat] 197):=by rw [<- hW];exact heap_alloc2_new w _ _
 have hgl:=z8 kb
 have HAL:Hid ((PA.at_ ⟨⟨#[60]⟩,i,j,b⟩).wd ≠ [61]):=qt8
 have hexe:(PA.at_ ⟨⟨#[60]⟩,i,j,b⟩).ex=(-1):=if_pos qb5
 have HEX:=q8 (zb8 (w:=W.drew) ⟨⟨#[60]⟩,i,j,b⟩ hx)
 have HC:Hid (∀ W',q9 (fun _=>False) w W'->Calls Tryz.prog 99 #[.pointer (some ⟨g,o,none⟩),.int .i64 i,.int .i64 j,.agg #[.int .i64 (-1),.int .u64 mw.a.toNat,.int .u64 mw.b.toNat,.int .u64 mw.c.toNat]] W' (TC W' g o n C far V H K X (fun Y=>Y.t.by_ i j<=(-1)/\(X.t.by_ i j<=(-1)\/Y.news=true)))) :=
  fun W' hx'=>x8 ((hx'.block _ hgl (fun f=>f)).trans kb) hT hn hi hj hI hfar (by omega) hmk (fun v hv hh=>by
   have:=zC9 hx HAL.out (hs v hv hh)
   rw [hexe] at this
   exact this)
 have KB:=q8 kb
 have HT:=q8 hT
 have HI:=q8 hI
 have HXW:=q8 hxW
 have HWE:=q8 hW
 have KM:=q8 kM
 have a0:=z6 kA 0
 have a1:=z6 kA 1
 have a2:=z6 kA 2
 have a3:=z6 kA 3
 have KA:=q8 kA
 have HEXE:Hid ((PA.at_ ⟨⟨#[60]⟩,i,j,b⟩).ex=(-1)):=hexe
 simp only at HEX
 rw [hexe] at HEX
 clear kb hT hI hs hxW hW kM kA hexe hx
 go_enter Tryz.func260,Tryz.ntmps260
 go_wp2_with fail
 rw [HWE.out]
 go_region_law (go_simp;go_wp2_with (go_at_call 266;refine HEX.out.mono ?_;rintro e w3 ⟨rfl,hx3⟩;have HX3:=q8 hx3;have k3:=(hx3.block _ (z8 KA.out) (fun f=>f)).trans KA.out;have b0:=z6 k3 0;have b1:=z6 k3 1;have b2:=z6 k3 2;have b3:=z6 k3 3;clear hx3 k3))
 all_goals
  have hxw3:q9 (fun _=>False) w w3:=HXW.out.trans (((q9.refl _ W).drew).trans HX3.out)
  have HX:=q8 hxw3
  have kM3:=((((q9.refl (fun _=>False) W).drew).trans HX3.out).block _ (z8 KM.out) (fun f=>f)).trans KM.out
  have m0:=z6 kM3 0
  have m1:=z6 kM3 1
  have m2:=z6 kM3 2
  clear hxw3 kM3 HEX a0 a1 a2 a3
  go_wp2_with fail
  refine (HC.out w3 HX.out).mono ?_
  rintro e w4 ⟨Y,ok,rfl,h2,h3,h4⟩
  have HF:Hid (TC w g o n C far V H K X (fun Y=>U3 Y.t (PA.at_ ⟨⟨#[60]⟩,i,j,b⟩,true)) (.returned (.bool ok)) w4):=TC.more HX.out ⟨Y,ok,rfl,h2,h3,fun e=>zv3 HAL.out (by rw [HEXE.out];exact (h4 e).1)⟩
  clear h2 h3 h4
  go_wp2_with fail
  go_ret
  exact HF.out
set_option maxRecDepth 100000 in
set_option maxHeartbeats 1000000 in
theorem jh9 {i j:Nat} {b:Int} (kb:w.heap[g]?=some (.cells C 203)) (hT:J9 C o n X) (hn:n<=13) (hi:i < n) (hj:j < n) (hI:V4 n far V H K X.t) (hfar:far<=1000000) (hmk:J7 K mw) (hx:(PA.at_ ⟨⟨#[60]⟩,i,j,b⟩).Ok) (_hb : -1000<=b/\b<=1000) (hs:∀ v,V v->Hs H mw v->(PA.at_ ⟨⟨#[60]⟩,i,j,b⟩).tr v=false) :
  Calls Tryz.prog 260 #[.pointer (some ⟨g,o,none⟩),.agg #[.string ⟨#[60]⟩,.int .i64 i,.int .i64 j,.int .i64 b],.bool false,.agg #[.int .u64 mw.a.toNat,.int .u64 mw.b.toNat,.int .u64 mw.c.toNat]] w (TC w g o n C far V H K X (fun Y=>U3 Y.t (PA.at_ ⟨⟨#[60]⟩,i,j,b⟩,false))):=by
 obtain ⟨W,hW⟩:∃ W,(w.alloc (.cells #[.string ⟨#[60]⟩,.int .i64 i,.int .i64 j,.int .i64 b] 153)).alloc (.cells #[.int .u64 mw.a.toNat,.int .u64 mw.b.toNat,.int .u64 mw.c.toNat] 197)=W:=⟨_,rfl⟩
 have hxW:q9 (fun _=>False) w W:=by rw [<- hW];exact ((q9.refl _ w).alloc _).alloc _
 have kA:W.heap[w.heap.size]?=some (.cells #[.string ⟨#[60]⟩,.int .i64 i,.int .i64 j,.int .i64 b] 153):=by rw [<- hW,heap_alloc_old _ _ (by simp)];exact heap_alloc_new w _
 have kM:W.heap[w.heap.size+1]?=some (.cells #[.int .u64 mw.a.toNat,.int .u64 mw.b.toNat,.int .u64 mw.c.toNat] 197):=by rw [<- hW];exact heap_alloc2_new w _ _
 have hgl:=z8 kb
 have HAL:Hid ((PA.at_ ⟨⟨#[60]⟩,i,j,b⟩).wd ≠ [61]):=qt8
 have hexe:(PA.at_ ⟨⟨#[60]⟩,i,j,b⟩).ex=(-1):=if_pos qb5
 have HEX:=q8 (zb8 (w:=W.drew) ⟨⟨#[60]⟩,i,j,b⟩ hx)
 have HC:Hid (∀ W',q9 (fun _=>False) w W'->Calls Tryz.prog 99 #[.pointer (some ⟨g,o,none⟩),.int .i64 j,.int .i64 i,.agg #[.int .i64 (-(-1) - 1),.int .u64 mw.a.toNat,.int .u64 mw.b.toNat,.int .u64 mw.c.toNat]] W' (TC W' g o n C far V H K X (fun Y=>Y.t.by_ j i<=(-(-1) - 1)/\(X.t.by_ j i<=(-(-1) - 1)\/Y.news=true)))) :=
  fun W' hx'=>x8 ((hx'.block _ hgl (fun f=>f)).trans kb) hT hn hj hi hI hfar (by omega) hmk (fun v hv hh=>by
   have:=zM3 hx HAL.out (hs v hv hh)
   rw [hexe] at this
   exact this)
 have KB:=q8 kb
 have HT:=q8 hT
 have HI:=q8 hI
 have HXW:=q8 hxW
 have HWE:=q8 hW
 have KM:=q8 kM
 have a0:=z6 kA 0
 have a1:=z6 kA 1
 have a2:=z6 kA 2
 have a3:=z6 kA 3
 have KA:=q8 kA
 have HEXE:Hid ((PA.at_ ⟨⟨#[60]⟩,i,j,b⟩).ex=(-1)):=hexe
 simp only at HEX
 rw [hexe] at HEX
 clear kb hT hI hs hxW hW kM kA hexe hx
 go_enter Tryz.func260,Tryz.ntmps260
 go_wp2_with fail
 rw [HWE.out]
 go_region_law (go_simp;go_wp2_with (go_at_call 266;refine HEX.out.mono ?_;rintro e w3 ⟨rfl,hx3⟩;have HX3:=q8 hx3;have k3:=(hx3.block _ (z8 KA.out) (fun f=>f)).trans KA.out;have b0:=z6 k3 0;have b1:=z6 k3 1;have b2:=z6 k3 2;have b3:=z6 k3 3;clear hx3 k3))
 all_goals
  have hxw3:q9 (fun _=>False) w w3:=HXW.out.trans (((q9.refl _ W).drew).trans HX3.out)
  have HX:=q8 hxw3
  have kM3:=((((q9.refl (fun _=>False) W).drew).trans HX3.out).block _ (z8 KM.out) (fun f=>f)).trans KM.out
  have m0:=z6 kM3 0
  have m1:=z6 kM3 1
  have m2:=z6 kM3 2
  clear hxw3 kM3 HEX a0 a1 a2 a3
  go_wp2_with fail
  refine (HC.out w3 HX.out).mono ?_
  rintro e w4 ⟨Y,ok,rfl,h2,h3,h4⟩
  have HF:Hid (TC w g o n C far V H K X (fun Y=>U3 Y.t (PA.at_ ⟨⟨#[60]⟩,i,j,b⟩,false)) (.returned (.bool ok)) w4):=TC.more HX.out ⟨Y,ok,rfl,h2,h3,fun e=>zv4 HAL.out (by rw [HEXE.out];exact (h4 e).1)⟩
  clear h2 h3 h4
  go_wp2_with fail
  go_ret
  exact HF.out
set_option maxRecDepth 100000 in
set_option maxHeartbeats 1000000 in
theorem ji0 {i j:Nat} {b:Int} (kb:w.heap[g]?=some (.cells C 203)) (hT:J9 C o n X) (hn:n<=13) (hi:i < n) (hj:j < n) (hI:V4 n far V H K X.t) (hfar:far<=1000000) (hmk:J7 K mw) (hx:(PA.at_ ⟨⟨#[60,61]⟩,i,j,b⟩).Ok) (hb : -1000<=b/\b<=1000) (hs:∀ v,V v->Hs H mw v->(PA.at_ ⟨⟨#[60,61]⟩,i,j,b⟩).tr v=true) :
  Calls Tryz.prog 260 #[.pointer (some ⟨g,o,none⟩),.agg #[.string ⟨#[60,61]⟩,.int .i64 i,.int .i64 j,.int .i64 b],.bool true,.agg #[.int .u64 mw.a.toNat,.int .u64 mw.b.toNat,.int .u64 mw.c.toNat]] w (TC w g o n C far V H K X (fun Y=>U3 Y.t (PA.at_ ⟨⟨#[60,61]⟩,i,j,b⟩,true))):=by
 obtain ⟨W,hW⟩:∃ W,(w.alloc (.cells #[.string ⟨#[60,61]⟩,.int .i64 i,.int .i64 j,.int .i64 b] 153)).alloc (.cells #[.int .u64 mw.a.toNat,.int .u64 mw.b.toNat,.int .u64 mw.c.toNat] 197)=W:=⟨_,rfl⟩
 have hxW:q9 (fun _=>False) w W:=by rw [<- hW];exact ((q9.refl _ w).alloc _).alloc _
 have kA:W.heap[w.heap.size]?=some (.cells #[.string ⟨#[60,61]⟩,.int .i64 i,.int .i64 j,.int .i64 b] 153):=by rw [<- hW,heap_alloc_old _ _ (by simp)];exact heap_alloc_new w _
 have kM:W.heap[w.heap.size+1]?=some (.cells #[.int .u64 mw.a.toNat,.int .u64 mw.b.toNat,.int .u64 mw.c.toNat] 197):=by rw [<- hW];exact heap_alloc2_new w _ _
 have hgl:=z8 kb
 have HAL:Hid ((PA.at_ ⟨⟨#[60,61]⟩,i,j,b⟩).wd ≠ [61]):=qt9
 have hexe:(PA.at_ ⟨⟨#[60,61]⟩,i,j,b⟩).ex=b:=if_neg qt5
 have HEX:=q8 (zb8 (w:=W.drew) ⟨⟨#[60,61]⟩,i,j,b⟩ hx)
 have HC:Hid (∀ W',q9 (fun _=>False) w W'->Calls Tryz.prog 99 #[.pointer (some ⟨g,o,none⟩),.int .i64 i,.int .i64 j,.agg #[.int .i64 b,.int .u64 mw.a.toNat,.int .u64 mw.b.toNat,.int .u64 mw.c.toNat]] W' (TC W' g o n C far V H K X (fun Y=>Y.t.by_ i j<=b/\(X.t.by_ i j<=b\/Y.news=true)))) :=
  fun W' hx'=>x8 ((hx'.block _ hgl (fun f=>f)).trans kb) hT hn hi hj hI hfar (by omega) hmk (fun v hv hh=>by
   have:=zC9 hx HAL.out (hs v hv hh)
   rw [hexe] at this
   exact this)
 have KB:=q8 kb
 have HT:=q8 hT
 have HI:=q8 hI
 have HXW:=q8 hxW
 have HWE:=q8 hW
 have KM:=q8 kM
 have a0:=z6 kA 0
 have a1:=z6 kA 1
 have a2:=z6 kA 2
 have a3:=z6 kA 3
 have KA:=q8 kA
 have HEXE:Hid ((PA.at_ ⟨⟨#[60,61]⟩,i,j,b⟩).ex=b):=hexe
 simp only at HEX
 rw [hexe] at HEX
 clear kb hT hI hs hxW hW kM kA hexe hx
 go_enter Tryz.func260,Tryz.ntmps260
 go_wp2_with fail
 rw [HWE.out]
 go_region_law (go_simp;go_wp2_with (go_at_call 266;refine HEX.out.mono ?_;rintro e w3 ⟨rfl,hx3⟩;have HX3:=q8 hx3;have k3:=(hx3.block _ (z8 KA.out) (fun f=>f)).trans KA.out;have b0:=z6 k3 0;have b1:=z6 k3 1;have b2:=z6 k3 2;have b3:=z6 k3 3;clear hx3 k3))
 all_goals
  have hxw3:q9 (fun _=>False) w w3:=HXW.out.trans (((q9.refl _ W).drew).trans HX3.out)
  have HX:=q8 hxw3
  have kM3:=((((q9.refl (fun _=>False) W).drew).trans HX3.out).block _ (z8 KM.out) (fun f=>f)).trans KM.out
  have m0:=z6 kM3 0
  have m1:=z6 kM3 1
  have m2:=z6 kM3 2
  clear hxw3 kM3 HEX a0 a1 a2 a3
  go_wp2_with fail
  refine (HC.out w3 HX.out).mono ?_
  rintro e w4 ⟨Y,ok,rfl,h2,h3,h4⟩
  have HF:Hid (TC w g o n C far V H K X (fun Y=>U3 Y.t (PA.at_ ⟨⟨#[60,61]⟩,i,j,b⟩,true)) (.returned (.bool ok)) w4):=TC.more HX.out ⟨Y,ok,rfl,h2,h3,fun e=>zv3 HAL.out (by rw [HEXE.out];exact (h4 e).1)⟩
  clear h2 h3 h4
  go_wp2_with fail
  go_ret
  exact HF.out
set_option maxRecDepth 100000 in
set_option maxHeartbeats 1000000 in
theorem ji1 {i j:Nat} {b:Int} (kb:w.heap[g]?=some (.cells C 203)) (hT:J9 C o n X) (hn:n<=13) (hi:i < n) (hj:j < n) (hI:V4 n far V H K X.t) (hfar:far<=1000000) (hmk:J7 K mw) (hx:(PA.at_ ⟨⟨#[60,61]⟩,i,j,b⟩).Ok) (hb : -1000<=b/\b<=1000) (hs:∀ v,V v->Hs H mw v->(PA.at_ ⟨⟨#[60,61]⟩,i,j,b⟩).tr v=false) :
  Calls Tryz.prog 260 #[.pointer (some ⟨g,o,none⟩),.agg #[.string ⟨#[60,61]⟩,.int .i64 i,.int .i64 j,.int .i64 b],.bool false,.agg #[.int .u64 mw.a.toNat,.int .u64 mw.b.toNat,.int .u64 mw.c.toNat]] w (TC w g o n C far V H K X (fun Y=>U3 Y.t (PA.at_ ⟨⟨#[60,61]⟩,i,j,b⟩,false))):=by
 obtain ⟨W,hW⟩:∃ W,(w.alloc (.cells #[.string ⟨#[60,61]⟩,.int .i64 i,.int .i64 j,.int .i64 b] 153)).alloc (.cells #[.int .u64 mw.a.toNat,.int .u64 mw.b.toNat,.int .u64 mw.c.toNat] 197)=W:=⟨_,rfl⟩
 have hxW:q9 (fun _=>False) w W:=by rw [<- hW];exact ((q9.refl _ w).alloc _).alloc _
 have kA:W.heap[w.heap.size]?=some (.cells #[.string ⟨#[60,61]⟩,.int .i64 i,.int .i64 j,.int .i64 b] 153):=by rw [<- hW,heap_alloc_old _ _ (by simp)];exact heap_alloc_new w _
 have kM:W.heap[w.heap.size+1]?=some (.cells #[.int .u64 mw.a.toNat,.int .u64 mw.b.toNat,.int .u64 mw.c.toNat] 197):=by rw [<- hW];exact heap_alloc2_new w _ _
 have hgl:=z8 kb
 have HAL:Hid ((PA.at_ ⟨⟨#[60,61]⟩,i,j,b⟩).wd ≠ [61]):=qt9
 have hexe:(PA.at_ ⟨⟨#[60,61]⟩,i,j,b⟩).ex=b:=if_neg qt5
 have HEX:=q8 (zb8 (w:=W.drew) ⟨⟨#[60,61]⟩,i,j,b⟩ hx)
 have HC:Hid (∀ W',q9 (fun _=>False) w W'->Calls Tryz.prog 99 #[.pointer (some ⟨g,o,none⟩),.int .i64 j,.int .i64 i,.agg #[.int .i64 (-b - 1),.int .u64 mw.a.toNat,.int .u64 mw.b.toNat,.int .u64 mw.c.toNat]] W' (TC W' g o n C far V H K X (fun Y=>Y.t.by_ j i<=(-b - 1)/\(X.t.by_ j i<=(-b - 1)\/Y.news=true)))) :=
  fun W' hx'=>x8 ((hx'.block _ hgl (fun f=>f)).trans kb) hT hn hj hi hI hfar (by omega) hmk (fun v hv hh=>by
   have:=zM3 hx HAL.out (hs v hv hh)
   rw [hexe] at this
   exact this)
 have KB:=q8 kb
 have HT:=q8 hT
 have HI:=q8 hI
 have HXW:=q8 hxW
 have HWE:=q8 hW
 have KM:=q8 kM
 have a0:=z6 kA 0
 have a1:=z6 kA 1
 have a2:=z6 kA 2
 have a3:=z6 kA 3
 have KA:=q8 kA
 have HEXE:Hid ((PA.at_ ⟨⟨#[60,61]⟩,i,j,b⟩).ex=b):=hexe
 simp only at HEX
 rw [hexe] at HEX
 clear kb hT hI hs hxW hW kM kA hexe hx
 go_enter Tryz.func260,Tryz.ntmps260
 go_wp2_with fail
 rw [HWE.out]
 go_region_law (go_simp;go_wp2_with (go_at_call 266;refine HEX.out.mono ?_;rintro e w3 ⟨rfl,hx3⟩;have HX3:=q8 hx3;have k3:=(hx3.block _ (z8 KA.out) (fun f=>f)).trans KA.out;have b0:=z6 k3 0;have b1:=z6 k3 1;have b2:=z6 k3 2;have b3:=z6 k3 3;clear hx3 k3))
 all_goals
  have hxw3:q9 (fun _=>False) w w3:=HXW.out.trans (((q9.refl _ W).drew).trans HX3.out)
  have HX:=q8 hxw3
  have kM3:=((((q9.refl (fun _=>False) W).drew).trans HX3.out).block _ (z8 KM.out) (fun f=>f)).trans KM.out
  have m0:=z6 kM3 0
  have m1:=z6 kM3 1
  have m2:=z6 kM3 2
  clear hxw3 kM3 HEX a0 a1 a2 a3
  go_wp2_with fail
  refine (HC.out w3 HX.out).mono ?_
  rintro e w4 ⟨Y,ok,rfl,h2,h3,h4⟩
  have HF:Hid (TC w g o n C far V H K X (fun Y=>U3 Y.t (PA.at_ ⟨⟨#[60,61]⟩,i,j,b⟩,false)) (.returned (.bool ok)) w4):=TC.more HX.out ⟨Y,ok,rfl,h2,h3,fun e=>zv4 HAL.out (by rw [HEXE.out];exact (h4 e).1)⟩
  clear h2 h3 h4
  go_wp2_with fail
  go_ret
  exact HF.out
set_option maxRecDepth 100000 in
set_option maxHeartbeats 1000000 in
theorem ji2 {i j:Nat} {b:Int} (kb:w.heap[g]?=some (.cells C 203)) (hT:J9 C o n X) (hn:n<=13) (hi:i < n) (hj:j < n) (hI:V4 n far V H K X.t) (hfar:far<=1000000) (hmk:J7 K mw) (hx:(PA.at_ ⟨⟨#[108,101]⟩,i,j,b⟩).Ok) (hb : -1000<=b/\b<=1000) (hs:∀ v,V v->Hs H mw v->(PA.at_ ⟨⟨#[108,101]⟩,i,j,b⟩).tr v=true) :
  Calls Tryz.prog 260 #[.pointer (some ⟨g,o,none⟩),.agg #[.string ⟨#[108,101]⟩,.int .i64 i,.int .i64 j,.int .i64 b],.bool true,.agg #[.int .u64 mw.a.toNat,.int .u64 mw.b.toNat,.int .u64 mw.c.toNat]] w (TC w g o n C far V H K X (fun Y=>U3 Y.t (PA.at_ ⟨⟨#[108,101]⟩,i,j,b⟩,true))):=by
 obtain ⟨W,hW⟩:∃ W,(w.alloc (.cells #[.string ⟨#[108,101]⟩,.int .i64 i,.int .i64 j,.int .i64 b] 153)).alloc (.cells #[.int .u64 mw.a.toNat,.int .u64 mw.b.toNat,.int .u64 mw.c.toNat] 197)=W:=⟨_,rfl⟩
 have hxW:q9 (fun _=>False) w W:=by rw [<- hW];exact ((q9.refl _ w).alloc _).alloc _
 have kA:W.heap[w.heap.size]?=some (.cells #[.string ⟨#[108,101]⟩,.int .i64 i,.int .i64 j,.int .i64 b] 153):=by rw [<- hW,heap_alloc_old _ _ (by simp)];exact heap_alloc_new w _
 have kM:W.heap[w.heap.size+1]?=some (.cells #[.int .u64 mw.a.toNat,.int .u64 mw.b.toNat,.int .u64 mw.c.toNat] 197):=by rw [<- hW];exact heap_alloc2_new w _ _
 have hgl:=z8 kb
 have HAL:Hid ((PA.at_ ⟨⟨#[108,101]⟩,i,j,b⟩).wd ≠ [61]):=qu0
 have hexe:(PA.at_ ⟨⟨#[108,101]⟩,i,j,b⟩).ex=b:=if_neg qt6
 have HEX:=q8 (zb8 (w:=W.drew) ⟨⟨#[108,101]⟩,i,j,b⟩ hx)
 have HC:Hid (∀ W',q9 (fun _=>False) w W'->Calls Tryz.prog 99 #[.pointer (some ⟨g,o,none⟩),.int .i64 i,.int .i64 j,.agg #[.int .i64 b,.int .u64 mw.a.toNat,.int .u64 mw.b.toNat,.int .u64 mw.c.toNat]] W' (TC W' g o n C far V H K X (fun Y=>Y.t.by_ i j<=b/\(X.t.by_ i j<=b\/Y.news=true)))) :=
  fun W' hx'=>x8 ((hx'.block _ hgl (fun f=>f)).trans kb) hT hn hi hj hI hfar (by omega) hmk (fun v hv hh=>by
   have:=zC9 hx HAL.out (hs v hv hh)
   rw [hexe] at this
   exact this)
 have KB:=q8 kb
 have HT:=q8 hT
 have HI:=q8 hI
 have HXW:=q8 hxW
 have HWE:=q8 hW
 have KM:=q8 kM
 have a0:=z6 kA 0
 have a1:=z6 kA 1
 have a2:=z6 kA 2
 have a3:=z6 kA 3
 have KA:=q8 kA
 have HEXE:Hid ((PA.at_ ⟨⟨#[108,101]⟩,i,j,b⟩).ex=b):=hexe
 simp only at HEX
 rw [hexe] at HEX
 clear kb hT hI hs hxW hW kM kA hexe hx
 go_enter Tryz.func260,Tryz.ntmps260
 go_wp2_with fail
 rw [HWE.out]
 go_region_law (go_simp;go_wp2_with (go_at_call 266;refine HEX.out.mono ?_;rintro e w3 ⟨rfl,hx3⟩;have HX3:=q8 hx3;have k3:=(hx3.block _ (z8 KA.out) (fun f=>f)).trans KA.out;have b0:=z6 k3 0;have b1:=z6 k3 1;have b2:=z6 k3 2;have b3:=z6 k3 3;clear hx3 k3))
 all_goals
  have hxw3:q9 (fun _=>False) w w3:=HXW.out.trans (((q9.refl _ W).drew).trans HX3.out)
  have HX:=q8 hxw3
  have kM3:=((((q9.refl (fun _=>False) W).drew).trans HX3.out).block _ (z8 KM.out) (fun f=>f)).trans KM.out
  have m0:=z6 kM3 0
  have m1:=z6 kM3 1
  have m2:=z6 kM3 2
  clear hxw3 kM3 HEX a0 a1 a2 a3
  go_wp2_with fail
  refine (HC.out w3 HX.out).mono ?_
  rintro e w4 ⟨Y,ok,rfl,h2,h3,h4⟩
  have HF:Hid (TC w g o n C far V H K X (fun Y=>U3 Y.t (PA.at_ ⟨⟨#[108,101]⟩,i,j,b⟩,true)) (.returned (.bool ok)) w4):=TC.more HX.out ⟨Y,ok,rfl,h2,h3,fun e=>zv3 HAL.out (by rw [HEXE.out];exact (h4 e).1)⟩
  clear h2 h3 h4
  go_wp2_with fail
  go_ret
  exact HF.out
set_option maxRecDepth 100000 in
set_option maxHeartbeats 1000000 in
theorem ji3 {i j:Nat} {b:Int} (kb:w.heap[g]?=some (.cells C 203)) (hT:J9 C o n X) (hn:n<=13) (hi:i < n) (hj:j < n) (hI:V4 n far V H K X.t) (hfar:far<=1000000) (hmk:J7 K mw) (hx:(PA.at_ ⟨⟨#[108,101]⟩,i,j,b⟩).Ok) (hb : -1000<=b/\b<=1000) (hs:∀ v,V v->Hs H mw v->(PA.at_ ⟨⟨#[108,101]⟩,i,j,b⟩).tr v=false) :
  Calls Tryz.prog 260 #[.pointer (some ⟨g,o,none⟩),.agg #[.string ⟨#[108,101]⟩,.int .i64 i,.int .i64 j,.int .i64 b],.bool false,.agg #[.int .u64 mw.a.toNat,.int .u64 mw.b.toNat,.int .u64 mw.c.toNat]] w (TC w g o n C far V H K X (fun Y=>U3 Y.t (PA.at_ ⟨⟨#[108,101]⟩,i,j,b⟩,false))):=by
 obtain ⟨W,hW⟩:∃ W,(w.alloc (.cells #[.string ⟨#[108,101]⟩,.int .i64 i,.int .i64 j,.int .i64 b] 153)).alloc (.cells #[.int .u64 mw.a.toNat,.int .u64 mw.b.toNat,.int .u64 mw.c.toNat] 197)=W:=⟨_,rfl⟩
 have hxW:q9 (fun _=>False) w W:=by rw [<- hW];exact ((q9.refl _ w).alloc _).alloc _
 have kA:W.heap[w.heap.size]?=some (.cells #[.string ⟨#[108,101]⟩,.int .i64 i,.int .i64 j,.int .i64 b] 153):=by rw [<- hW,heap_alloc_old _ _ (by simp)];exact heap_alloc_new w _
 have kM:W.heap[w.heap.size+1]?=some (.cells #[.int .u64 mw.a.toNat,.int .u64 mw.b.toNat,.int .u64 mw.c.toNat] 197):=by rw [<- hW];exact heap_alloc2_new w _ _
 have hgl:=z8 kb
 have HAL:Hid ((PA.at_ ⟨⟨#[108,101]⟩,i,j,b⟩).wd ≠ [61]):=qu0
 have hexe:(PA.at_ ⟨⟨#[108,101]⟩,i,j,b⟩).ex=b:=if_neg qt6
 have HEX:=q8 (zb8 (w:=W.drew) ⟨⟨#[108,101]⟩,i,j,b⟩ hx)
 have HC:Hid (∀ W',q9 (fun _=>False) w W'->Calls Tryz.prog 99 #[.pointer (some ⟨g,o,none⟩),.int .i64 j,.int .i64 i,.agg #[.int .i64 (-b - 1),.int .u64 mw.a.toNat,.int .u64 mw.b.toNat,.int .u64 mw.c.toNat]] W' (TC W' g o n C far V H K X (fun Y=>Y.t.by_ j i<=(-b - 1)/\(X.t.by_ j i<=(-b - 1)\/Y.news=true)))) :=
  fun W' hx'=>x8 ((hx'.block _ hgl (fun f=>f)).trans kb) hT hn hj hi hI hfar (by omega) hmk (fun v hv hh=>by
   have:=zM3 hx HAL.out (hs v hv hh)
   rw [hexe] at this
   exact this)
 have KB:=q8 kb
 have HT:=q8 hT
 have HI:=q8 hI
 have HXW:=q8 hxW
 have HWE:=q8 hW
 have KM:=q8 kM
 have a0:=z6 kA 0
 have a1:=z6 kA 1
 have a2:=z6 kA 2
 have a3:=z6 kA 3
 have KA:=q8 kA
 have HEXE:Hid ((PA.at_ ⟨⟨#[108,101]⟩,i,j,b⟩).ex=b):=hexe
 simp only at HEX
 rw [hexe] at HEX
 clear kb hT hI hs hxW hW kM kA hexe hx
 go_enter Tryz.func260,Tryz.ntmps260
 go_wp2_with fail
 rw [HWE.out]
 go_region_law (go_simp;go_wp2_with (go_at_call 266;refine HEX.out.mono ?_;rintro e w3 ⟨rfl,hx3⟩;have HX3:=q8 hx3;have k3:=(hx3.block _ (z8 KA.out) (fun f=>f)).trans KA.out;have b0:=z6 k3 0;have b1:=z6 k3 1;have b2:=z6 k3 2;have b3:=z6 k3 3;clear hx3 k3))
 all_goals
  have hxw3:q9 (fun _=>False) w w3:=HXW.out.trans (((q9.refl _ W).drew).trans HX3.out)
  have HX:=q8 hxw3
  have kM3:=((((q9.refl (fun _=>False) W).drew).trans HX3.out).block _ (z8 KM.out) (fun f=>f)).trans KM.out
  have m0:=z6 kM3 0
  have m1:=z6 kM3 1
  have m2:=z6 kM3 2
  clear hxw3 kM3 HEX a0 a1 a2 a3
  go_wp2_with fail
  refine (HC.out w3 HX.out).mono ?_
  rintro e w4 ⟨Y,ok,rfl,h2,h3,h4⟩
  have HF:Hid (TC w g o n C far V H K X (fun Y=>U3 Y.t (PA.at_ ⟨⟨#[108,101]⟩,i,j,b⟩,false)) (.returned (.bool ok)) w4):=TC.more HX.out ⟨Y,ok,rfl,h2,h3,fun e=>zv4 HAL.out (by rw [HEXE.out];exact (h4 e).1)⟩
  clear h2 h3 h4
  go_wp2_with fail
  go_ret
  exact HF.out
theorem qJ8 {x:PA} {yes:Bool} (kb:w.heap[g]?=some (.cells C 203)) (hT:J9 C o n X) (hn:n<=13) (hi:x.i < n) (hj:x.j < n) (hI:V4 n far V H K X.t) (hfar:far<=1000000) (hmk:J7 K mw) (hx:x.at_.Ok) (hb : -1000<=x.b/\x.b<=1000) (hs:∀ v,V v->Hs H mw v->x.at_.tr v=yes) :
  Calls Tryz.prog 260 #[.pointer (some ⟨g,o,none⟩),.agg #[.string x.wd,.int .i64 x.i,.int .i64 x.j,.int .i64 x.b],.bool yes,.agg #[.int .u64 mw.a.toNat,.int .u64 mw.b.toNat,.int .u64 mw.c.toNat]] w (TC w g o n C far V H K X (fun Y=>U3 Y.t (x.at_,yes))):=by
 have hw:=PA.words hx
 obtain ⟨wd,i,j,b⟩:=x
 simp only at hw
 rcases hw with rfl | rfl | rfl | rfl <;> cases yes
 ·exact jh7 kb hT hn hi hj hI hfar hmk hx hb hs
 ·exact jh6 kb hT hn hi hj hI hfar hmk hx hb hs
 ·exact jh9 kb hT hn hi hj hI hfar hmk hx hb hs
 ·exact jh8 kb hT hn hi hj hI hfar hmk hx hb hs
 ·exact ji1 kb hT hn hi hj hI hfar hmk hx hb hs
 ·exact ji0 kb hT hn hi hj hI hfar hmk hx hb hs
 ·exact ji3 kb hT hn hi hj hI hfar hmk hx hb hs
 ·exact ji2 kb hT hn hi hj hI hfar hmk hx hb hs
end
end Go.Proofs.YtegbdaffhpiacaaGreatDoor
