/- The program's row of atoms: finding one, or taking it in; The program's rows that keep things once each: the last ones are taken back; The keys of atoms in the program's row of atoms; a session's pool; The program: an atom is taken in; The program: a formula is taken in. -/
import Derived.Test.YtegbdaffhpiacaaGreatDoorBck19
namespace Go.Proofs.YtegbdaffhpiacaaGreatDoor
open Go.RowKit Go.Maps Ar
theorem zD9 (mb:Nat) (W:World):(binOp BinOp.eql 84 (.map (some mb)) (.map none)).run Tryz.prog W=.ok (.bool false) W:=by kernel_rfl
theorem qd7 (W:World):(binOp BinOp.eql 84 (.map none) (.map none)).run Tryz.prog W=.ok (.bool true) W:=by kernel_rfl
structure zE8 (w:World) (tv mv:Value) (K:List X9):Prop where
 own:w.ownsRow 0 153 4 tv K.length (K.flatMap X9.cells)
 nd:K.Nodup
 ok:∀ k∈K,k.Ok
 map:(mv=.map none/\K=[])\/∃ mb D,mv=.map (some mb)/\w.ownsMap Tryz.prog 153 (plainElem Tryz.prog 3) mb K.length D/\zi1 klA X9.Ok (fun _=>True) K D K.length
 sep:∀ g,tv.ownBlock=some g->¬U0 mv=some g
theorem zE8.ext {S:Nat->Prop} {w w':World} {tv mv:Value} {K:List X9} (h:zE8 w tv mv K) (hx:q9 S w w') (h1:∀ g,tv.ownBlock=some g->¬S g) (h2:∀ g,U0 mv=some g->¬S g):zE8 w' tv mv K:=by
 refine ⟨z7 h.own hx h1,h.nd,h.ok,?_,h.sep⟩
 rcases h.map with e | ⟨mb,D,rfl,ho,hm⟩
 ·exact .inl e
 ·exact .inr ⟨mb,D,rfl,Z4 ho hx (h2 mb rfl),hm⟩
def zi3 (w:World) (sb:Nat) (nv:Value) (xs:PX) (K:List X9) (x:X9) (e:Ending) (w':World):Prop :=
 ∃ (i:Nat) (tv' mv':Value),e=.returned (.int .i64 i)/\(putK K x)[i]?=some x/\w'.heap[sb]?=some (.cells #[nv,xs.ts,xs.tm,tv',mv',xs.fs,xs.ks,xs.vd,xs.ml] 98)/\zE8 w' tv' mv' (putK K x)/\q9 (fun k=>k=sb\/xs.at_.ownBlock=some k\/U0 xs.am=some k) w w' /\
  (∀ k,tv'.ownBlock=some k->xs.at_.ownBlock=some k\/w.heap.size<=k)/\(∀ k,U0 mv' = some k->U0 xs.am=some k\/w.heap.size<=k)
set_option maxRecDepth 100000 in
theorem zK1 {w w0 w1 w2 W:World} {sb mb g cap':Nat} {nv:Value} {xs:PX} {K:List X9} {x:X9} {D:DataW Unit} (h:zE8 w xs.at_ xs.am K) (hx:x.Ok) (hn:¬x∈K)
  (h0:q9 (fun k=>k=sb) w w0) (hgrow:w0.grownBy w1 xs.at_.ownBlock) (hown:w1.ownsRow 0 153 4 (.slice (some ⟨g,0,none⟩) (K.length+1) cap') (K.length+1) (K.flatMap X9.cells++x.cells))
  (hat:xs.at_.ownBlock=some g\/w.heap.size<=g) (hmg:¬g=mb) (hgs:¬g=sb) (hms:¬mb=sb) (hmb:U0 xs.am=some mb\/w.heap.size<=mb) (h2:q9 (fun k=>k=sb) w1 w2) (hm0:zi1 klA X9.Ok (fun _=>True) K D K.length) (htd:Maps.Tidy D)
  (hown2:W.ownsMap Tryz.prog 153 (plainElem Tryz.prog 3) mb (K.length+1) (D.put (klA x) (.lit (.int .i64 K.length)))) (h3:q9 (fun k=>k=mb) w2 W)
  (kW:w2.heap[sb]?=some (.cells #[nv,xs.ts,xs.tm,(.slice (some ⟨g,0,none⟩) (K.length+1) cap'),(.map (some mb)),xs.fs,xs.ks,xs.vd,xs.ml] 98)) :
  zi3 w sb nv xs K x (.returned (.int .i64 K.length)) W:=by
 have hk:WideAt.IsKeyLit (klA x):=zk6.key (zJ8 hx)
 have hmf:=qd3 hm0 htd hk h.ok hx (fun y hy e=>qv0 hy hx e) hn
 have s0:=h0.size
 refine ⟨K.length,.slice (some ⟨g,0,none⟩) (K.length+1) cap',.map (some mb),rfl,?_,?_,⟨?_,?_,?_,?_,?_⟩,?_,?_,?_⟩
 ·rw [za7 hn];simp
 ·exact (h3.block sb (z8 kW) (fun e=>hms e.symm)).trans kW
 ·rw [za7 hn]
  have ho:=z7 (z7 hown h2 (fun k hk e=>by simp [Value.ownBlock] at hk;omega)) h3 (fun k hk e=>by simp [Value.ownBlock] at hk;omega)
  simpa using ho
 ·rw [za7 hn,List.nodup_append]
  refine ⟨h.nd,by simp,?_⟩
  intro a ha b hb e
  simp at hb
  subst hb e
  exact hn ha
 ·rw [za7 hn]
  intro k hk
  rcases List.mem_append.1 hk with hk | hk
  ·exact h.ok k hk
  ·simp at hk;subst hk;exact hx
 ·rw [za7 hn]
  refine .inr ⟨mb,_,rfl,?_,hmf⟩
  simpa using hown2
 ·intro k hk e
  simp [Value.ownBlock] at hk
  simp [U0] at e
  omega
 ·have e1:q9 (fun k=>k=sb\/xs.at_.ownBlock=some k\/U0 xs.am=some k) w w1:=(h0.mono (fun _ _ e=>.inl e)).grown hgrow (fun k hk _=>.inr (.inl hk))
  exact (e1.trans' h2 (fun _ _ e=>.inl e)).trans' h3 (fun k hk e=>by
   subst e
   rcases hmb with e2 | e2
   ·exact .inr (.inr e2)
   ·omega)
 ·intro k hk
  simp [Value.ownBlock] at hk
  subst hk
  exact hat
 ·intro k hk
  simp [U0] at hk
  subst hk
  exact hmb
set_option maxRecDepth 100000 in
set_option maxHeartbeats 1000000 in
theorem qn2 {w:World} {sb:Nat} {nv:Value} {xs:PX} {K:List X9} (x:X9) (kb:w.heap[sb]?=some (.cells #[nv,xs.ts,xs.tm,xs.at_,xs.am,xs.fs,xs.ks,xs.vd,xs.ml] 98)) (h:zE8 w xs.at_ xs.am K) (hx:x.Ok) (hs1:∀ k,xs.at_.ownBlock=some k->¬k=sb) (hs2:∀ k,U0 xs.am=some k->¬k=sb) (hlen:K.length<=10000000) :
  Calls Tryz.prog 149 #[.pointer (some ⟨sb,3,none⟩),x.val] w (zi3 w sb nv xs K x):=by
 show Calls Tryz.prog 149 #[.pointer (some ⟨sb,3,none⟩),.agg #[.string x.wd,.int .i64 x.i,.int .i64 x.j,.int .i64 x.b]] w (zi3 w sb nv xs K x)
 have hke:keyOf Tryz.prog 153 (.agg #[.string x.wd,.int .i64 x.i,.int .i64 x.j,.int .i64 x.b])=some (klA x):=zJ8 hx
 have HKE:=q8 hke
 clear hke
 obtain ⟨ts,tm,at_,am,fs,ks,vd,ml⟩:=xs
 simp only at kb h hs1 hs2
 have hsb:=z8 kb
 have HX0:Hid (q9 (fun _=>False) w (w.alloc (.cells #[.string x.wd,.int .i64 x.i,.int .i64 x.j,.int .i64 x.b] 153))):=(q9.refl _ w).alloc _
 have HBX:Hid ((w.alloc (.cells #[.string x.wd,.int .i64 x.i,.int .i64 x.j,.int .i64 x.b] 153)).heap[w.heap.size]?=some (.cells #[.string x.wd,.int .i64 x.i,.int .i64 x.j,.int .i64 x.b] 153)):=heap_alloc_new w _
 by_cases hin:x∈K
 ·-- it is there
  obtain ⟨i,hi⟩:=List.mem_iff_getElem?.1 hin
  rcases h.map with ⟨_,e⟩ | ⟨mb,D,hmv,ho,hm⟩
  ·subst e;exact absurd hin (by simp)
  subst hmv
  have hlk:∀ n,(Instr.lookup 84 (.map (some mb)) (.agg #[.string x.wd,.int .i64 x.i,.int .i64 x.j,.int .i64 x.b]) true).run Tryz.prog ((w.alloc (.cells #[.string x.wd,.int .i64 x.i,.int .i64 x.j,.int .i64 x.b] 153)).drewN n)=.ok (.tuple #[.int .i64 i,.bool true]) ((w.alloc (.cells #[.string x.wd,.int .i64 x.i,.int .i64 x.j,.int .i64 x.b] 153)).drewN n):=by
   intro n
   have ho2:=Z4 ho (((q9.refl (fun _=>False) w).alloc (.cells #[.string x.wd,.int .i64 x.i,.int .i64 x.j,.int .i64 x.b] 153)).drewN n) (fun f=>f)
   obtain ⟨v,ps,hrun,hv⟩:=ho2.look_ok zk6 Tryz.underlying84 (zl5 _) (plainElem_int Tryz.underlying3 (by decide)) HKE.out
   rw [(hm.yes i x hi trivial).1] at hv
   obtain ⟨a,rfl,e2,_⟩:=plainElem_int_inv Tryz.underlying3 hv
   simp at e2
   rw [hrun,(hm.yes i x hi trivial).2,e2.1]
  have c1:=z6 kb 3
  have c2:=z6 kb 4
  have H:=q8 h
  have KB:=q8 kb
  have HI:=q8 hi
  have HW0:Hid (q9 (fun _=>False) w (w.alloc (.cells #[.string x.wd,.int .i64 x.i,.int .i64 x.j,.int .i64 x.b] 153))):=(q9.refl _ w).alloc _
  have hlk0:=hlk 0
  have hnw:¬sb=w.heap.size:=by omega
  clear h kb ho hm hi
  go_enter Tryz.func149,Tryz.ntmps149
  go_wp2_with fail
  go_quiet (fail)
  go_wp2_with fail
  go_ret
  refine ⟨i,_,_,rfl,by rw [zs1 hin];exact HI.out,?_,?_,?_,fun k hk=>.inl hk,fun k hk=>.inl hk⟩
  ·exact ((HW0.out.drewN nq).block sb hsb (fun f=>f)).trans KB.out
  ·rw [zs1 hin]
   exact H.out.ext (HW0.out.drewN nq) (fun _ _ f=>f) (fun _ _ f=>f)
  ·exact (HW0.out.drewN nq).mono (fun _ _ f=>f.elim)
 ·have HX:=q8 hx
  have HS1:=q8 hs1
  have HS2:=q8 hs2
  obtain ⟨ta,tc,hts⟩:∃ ta tc,at_=.slice ta K.length tc:=by
   rcases h.own.2 with ⟨e,e0⟩ | ⟨g,cap,cur,hv,_⟩
   ·exact ⟨none,0,by rw [e,e0]⟩
   ·exact ⟨_,cap,hv⟩
  subst hts
  rcases h.map with ⟨hmv,hK⟩ | ⟨mb,D,hmv,ho,hm⟩
  ·subst hmv
   have hlk:∀ n,(Instr.lookup 84 (.map none) (.agg #[.string x.wd,.int .i64 x.i,.int .i64 x.j,.int .i64 x.b]) true).run Tryz.prog ((w.alloc (.cells #[.string x.wd,.int .i64 x.i,.int .i64 x.j,.int .i64 x.b] 153)).drewN n)=.ok (.tuple #[.int .i64 0,.bool false]) ((w.alloc (.cells #[.string x.wd,.int .i64 x.i,.int .i64 x.j,.int .i64 x.b] 153)).drewN n):=by
    intro n
    have e:=Maps.look_nil (w:=(w.alloc (.cells #[.string x.wd,.int .i64 x.i,.int .i64 x.j,.int .i64 x.b] 153)).drewN n) true zk6 Tryz.underlying84 (zl5 _) HKE.out
    simpa using e
   have c1:=z6 kb 3
   have c2:=z6 kb 4
   have f2:=Q0 kb 4
   have hlk0:=hlk 0
   have hnw:¬sb=w.heap.size:=by omega
   have hmm:=@run_makeMap Tryz.prog
   have hnil:=qd7
   have HK:=q8 hK
   have H:=q8 h
   have KB:=q8 kb
   clear h kb hx hs1 hs2 hK
   go_enter Tryz.func149,Tryz.ntmps149
   go_wp2_with fail
   go_quiet (fail)
   obtain ⟨V0,hVe⟩:∃ V0,(w.alloc (.cells #[.string x.wd,.int .i64 x.i,.int .i64 x.j,.int .i64 x.b] 153)).drewN nq=V0:=⟨_,rfl⟩
   have HVF:Hid (q9 (fun _=>False) w V0):=by rw [<- hVe];exact ((q9.refl _ w).alloc _).drewN nq
   have KV0:=q8 ((HVF.out.block sb hsb (fun f=>f)).trans KB.out)
   have KX0:Hid (V0.heap[w.heap.size]?=some (.cells #[.string x.wd,.int .i64 x.i,.int .i64 x.j,.int .i64 x.b] 153)):=by rw [<- hVe];exact heap_alloc_new w _
   have hl0:=z8 KV0.out
   have hlx0:=z8 KX0.out
   rw [hVe]
   clear hVe hlk hlk0 c1 c2 f2
   have c1:=z6 KV0.out 3
   have c2:=z6 KV0.out 4
   have f2:=Q0 KV0.out 4
   go_wp2_with fail
   obtain ⟨mb,hmb⟩:∃ mb,mb=V0.heap.size:=⟨_,rfl⟩
   obtain ⟨D,hD⟩:∃ D:DataW Unit,D=.map []:=⟨_,rfl⟩
   obtain ⟨V,hVe⟩:∃ V,(V0.setCell ⟨sb,4,none⟩ (.map (some V0.heap.size))).alloc (.map #[] 0)=V:=⟨_,rfl⟩
   have hsz:(V0.setCell ⟨sb,4,none⟩ (.map (some V0.heap.size))).heap.size=V0.heap.size:=by simp
   have HVA:Hid (q9 (fun k=>k=sb) V0 V):=by rw [<- hVe];exact ((q9.refl (fun k=>k=sb) _).setCell (p:=⟨sb,4,none⟩) (fun _=>rfl) _).alloc _
   have HV:Hid (q9 (fun k=>k=sb) w V):=(HVF.out.mono (fun _ _ f=>f.elim)).trans HVA.out
   have KV:Hid (V.heap[sb]?=some (.cells #[nv,ts,tm,.slice ta K.length tc,.map (some mb),fs,ks,vd,ml] 98)):=by
    rw [<- hVe,hmb]
    exact (Below.heap_alloc _ _ sb (by rw [hsz];exact hl0)).trans (Y0 KV0.out 4 _)
   have KX:Hid (V.heap[w.heap.size]?=some (.cells #[.string x.wd,.int .i64 x.i,.int .i64 x.j,.int .i64 x.b] 153)):=(HVA.out.block _ hlx0 (by show ¬w.heap.size=sb;omega)).trans KX0.out
   have HMS:Hid (¬mb=sb):=by show ¬_;omega
   have HOV:Hid (V.ownsMap Tryz.prog 153 (plainElem Tryz.prog 3) mb K.length D):=by
    have e:=World.ownsMap_made (H:=Unit) (V0.setCell ⟨sb,4,none⟩ (.map (some V0.heap.size))) Tryz.prog 153 (plainElem Tryz.prog 3)
    rw [hsz,hVe] at e
    rw [hmb,hD,HK.out]
    exact e
   have HMF:Hid (zi1 klA X9.Ok (fun _=>True) K D K.length):=by rw [hD,HK.out];exact qd2
   have HTD:Hid (Maps.Tidy D):=by rw [hD];exact tidy_empty
   have HMB:Hid (U0 (.map none)=some mb\/w.heap.size<=mb):=.inr (by have:=HVF.out.size;omega)
   have HSEP:Hid (∀ g,(Value.slice ta K.length tc).ownBlock=some g->¬g=mb):=fun g hg e=>by
    have h1:=(H.out.own.lt g hg).2
    have:=HVF.out.size
    omega
   rw [hVe,<- hmb]
   clear hVe hmb hD c1 c2 f2 KV0 KX0 hnil hsz
   have hlV:=z8 KV.out
   have hlX:=z8 KX.out
   have c1:=z6 KV.out 3
   have c2:=z6 KV.out 4
   have x0:=z6 KX.out 0
   have x1:=z6 KX.out 1
   have x2:=z6 KX.out 2
   have x3:=z6 KX.out 3
   obtain ⟨i0,hi,hz0,hz1,hz2⟩:=info_parts zy4
   have hnn:=zD9 mb
   have HOR:=q8 (z7 H.out.own HV.out (fun k hk e=>HS1.out k hk e))
   go_wp2_with fail
   go_region_law ((refine step_append_lies _ (by rfl) _ _ _ (by rfl) 0 153 i0 _ 4 40 Tryz.underlying83 hi hz0 hz1 hz2 rfl (by omega) (.slice ta K.length tc) K.length (K.flatMap X9.cells) (by rfl) ((HOR.out.alloc _).drew) ⟨V.heap.size,0,none⟩ 1 1 x.cells (by rfl) (by rfl) (World.news_of_block (cs:=#[.string x.wd,.int .i64 x.i,.int .i64 x.j,.int .i64 x.b]) (t:=153) (fr:=(0,0)) (heap_alloc_new V _)) (by simp [X9.cells,Value.oneCell']) (by omega) (by unfold maxLen;omega) (by omega) (Nat.zero_le _) (V.heap.size+1) (by simp) ?_;intro g cap' w2 hown2 hgrow hat hlt2;have kb2:w2.heap[sb]?=some (.cells #[nv,ts,tm,.slice ta K.length tc,.map (some mb),fs,ks,vd,ml] 98):=(hgrow.block sb (by simp;omega) (fun e=>HS1.out sb e.symm rfl)).trans ((Below.heap_alloc V _ sb hlV).trans KV.out);have d1:=z6 kb2 3;have d1f:=Q0 kb2 3))
   all_goals
    obtain ⟨W3,hW3⟩:∃ W3,w2.setCell ⟨sb,3,none⟩ (.slice (some ⟨g,0,none⟩) (K.length+1) cap')=W3:=⟨_,rfl⟩
    have hxV:q9 (fun k=>(Value.slice ta K.length tc).ownBlock=some k) V w2:=((((q9.refl (fun _=>False) V).alloc _).drew).mono (fun _ _ f=>f.elim)).grown hgrow (fun k hk _=>hk)
    have hx3:q9 (fun k=>k=sb) w2 W3:=by rw [<- hW3];exact (q9.refl (fun k=>k=sb) w2).setCell (p:=⟨sb,3,none⟩) (fun _=>rfl) _
    have kb3:W3.heap[sb]?=some (.cells #[nv,ts,tm,(.slice (some ⟨g,0,none⟩) (K.length+1) cap'),.map (some mb),fs,ks,vd,ml] 98):=by rw [<- hW3];exact Y0 kb2 3 _
    have kx3:W3.heap[w.heap.size]?=some (.cells #[.string x.wd,.int .i64 x.i,.int .i64 x.j,.int .i64 x.b] 153):=(hx3.block _ (Nat.lt_of_lt_of_le hlX hxV.size) (by show ¬w.heap.size=sb;omega)).trans ((hxV.block _ hlX (fun e=>by have:=(H.out.own.lt _ e).2;omega)).trans KX.out)
    have ho3:W3.drew.ownsMap Tryz.prog 153 (plainElem Tryz.prog 3) mb K.length D:=Z4 (Z4 (Z4 HOV.out hxV (fun e=>HSEP.out mb e rfl)) hx3 HMS.out) ((q9.refl (fun _=>False) W3).drew) (fun f=>f)
    obtain ⟨W4,hst,how4,hturn⟩:=ho3.store zk6 Tryz.underlying84 (by unfold maxLen;omega) HKE.out (plainElem_int Tryz.underlying3 (zQ8 (n:=(K.length:Int)) ⟨by omega,by omega⟩))
    have e1:=z6 kb3 3
    have e2:=z6 kb3 4
    have y0:=z6 kx3 0
    have y1:=z6 kx3 1
    have y2:=z6 kx3 2
    have y3:=z6 kx3 3
    have HN:Hid (zi3 w sb nv ⟨ts,tm,.slice ta K.length tc,.map none,fs,ks,vd,ml⟩ K x (.returned (.int .i64 K.length)) W4):=zK1 (xs:=⟨ts,tm,.slice ta K.length tc,.map none,fs,ks,vd,ml⟩) H.out HX.out hin ((HV.out.alloc _).drew) hgrow hown2 (hat.imp id (fun e=>by have:=HV.out.size;omega)) (by
     rcases hat with e | e
     ·exact fun e3=>HSEP.out mb (e3 ▸ e) rfl
     ·have:=HOV.out.lt;omega) (by
     rcases hat with e | e
     ·exact HS1.out g e
     ·omega) HMS.out HMB.out hx3 HMF.out HTD.out how4 ((((q9.refl (fun _=>False) W3).drew).mono (fun _ _ f=>f.elim)).trans (O9 hturn)) kb3
    rw [hW3]
    clear hW3 hxV hx3 kb3 kx3 ho3 how4 hturn kb2 hown2 hgrow hat c1 c2 d1 d1f
    go_wp2_with fail
    go_region
    all_goals
     go_wp2_with fail
     go_ret
     exact HN.out
  ·subst hmv
   have hlk:∀ n,(Instr.lookup 84 (.map (some mb)) (.agg #[.string x.wd,.int .i64 x.i,.int .i64 x.j,.int .i64 x.b]) true).run Tryz.prog ((w.alloc (.cells #[.string x.wd,.int .i64 x.i,.int .i64 x.j,.int .i64 x.b] 153)).drewN n)=.ok (.tuple #[.int .i64 0,.bool false]) ((w.alloc (.cells #[.string x.wd,.int .i64 x.i,.int .i64 x.j,.int .i64 x.b] 153)).drewN n):=by
    intro n
    have ho2:=Z4 ho (((q9.refl (fun _=>False) w).alloc (.cells #[.string x.wd,.int .i64 x.i,.int .i64 x.j,.int .i64 x.b] 153)).drewN n) (fun f=>f)
    obtain ⟨v,ps,hrun,hv⟩:=ho2.look_ok zk6 Tryz.underlying84 (zl5 _) (plainElem_int Tryz.underlying3 (by decide)) HKE.out
    have hno:=hm.no x hx (fun hc=>hin hc.1)
    rw [atKey_of_not_has hno] at hv
    obtain ⟨a,rfl,e2,_⟩:=plainElem_int_inv Tryz.underlying3 hv
    simp at e2
    rw [hrun,hno,<- e2.1]
   have c1:=z6 kb 3
   have c2:=z6 kb 4
   have hlk0:=hlk 0
   have hnw:¬sb=w.heap.size:=by omega
   have HTD:=q8 (ho.tidy zk6)
   have HMF:=q8 hm
   have HO:=q8 ho
   have H:=q8 h
   have KB:=q8 kb
   have HSEP:Hid (∀ g,(Value.slice ta K.length tc).ownBlock=some g->¬g=mb):=fun g hg e=>h.sep g hg (by rw [e];rfl)
   have HMS:Hid (¬mb=sb):=hs2 mb rfl
   have HMB:Hid (U0 (.map (some mb))=some mb\/w.heap.size<=mb):=.inl rfl
   clear h kb ho hm hx hs1 hs2
   go_enter Tryz.func149,Tryz.ntmps149
   go_wp2_with fail
   go_quiet (fail)
   obtain ⟨V,hVe⟩:∃ V,(w.alloc (.cells #[.string x.wd,.int .i64 x.i,.int .i64 x.j,.int .i64 x.b] 153)).drewN nq=V:=⟨_,rfl⟩
   have HVF:Hid (q9 (fun _=>False) w V):=by rw [<- hVe];exact ((q9.refl _ w).alloc _).drewN nq
   have HV:Hid (q9 (fun k=>k=sb) w V):=HVF.out.mono (fun _ _ f=>f.elim)
   have KV:=q8 ((HVF.out.block sb hsb (fun f=>f)).trans KB.out)
   have KX:Hid (V.heap[w.heap.size]?=some (.cells #[.string x.wd,.int .i64 x.i,.int .i64 x.j,.int .i64 x.b] 153)):=by rw [<- hVe];exact heap_alloc_new w _
   have HOV:=q8 (Z4 HO.out HVF.out (fun f=>f))
   rw [hVe]
   clear hVe hlk hlk0 c1 c2
   have hlV:=z8 KV.out
   have hlX:=z8 KX.out
   have c1:=z6 KV.out 3
   have c2:=z6 KV.out 4
   have x0:=z6 KX.out 0
   have x1:=z6 KX.out 1
   have x2:=z6 KX.out 2
   have x3:=z6 KX.out 3
   obtain ⟨i0,hi,hz0,hz1,hz2⟩:=info_parts zy4
   have hnn:=zD9 mb
   have HOR:=q8 (z7 H.out.own HV.out (fun k hk e=>HS1.out k hk e))
   go_wp2_with fail
   go_region_law ((refine step_append_lies _ (by rfl) _ _ _ (by rfl) 0 153 i0 _ 4 40 Tryz.underlying83 hi hz0 hz1 hz2 rfl (by omega) (.slice ta K.length tc) K.length (K.flatMap X9.cells) (by rfl) ((HOR.out.alloc _).drew) ⟨V.heap.size,0,none⟩ 1 1 x.cells (by rfl) (by rfl) (World.news_of_block (cs:=#[.string x.wd,.int .i64 x.i,.int .i64 x.j,.int .i64 x.b]) (t:=153) (fr:=(0,0)) (heap_alloc_new V _)) (by simp [X9.cells,Value.oneCell']) (by omega) (by unfold maxLen;omega) (by omega) (Nat.zero_le _) (V.heap.size+1) (by simp) ?_;intro g cap' w2 hown2 hgrow hat hlt2;have kb2:w2.heap[sb]?=some (.cells #[nv,ts,tm,.slice ta K.length tc,.map (some mb),fs,ks,vd,ml] 98):=(hgrow.block sb (by simp;omega) (fun e=>HS1.out sb e.symm rfl)).trans ((Below.heap_alloc V _ sb hlV).trans KV.out);have d1:=z6 kb2 3;have d1f:=Q0 kb2 3))
   all_goals
    obtain ⟨W3,hW3⟩:∃ W3,w2.setCell ⟨sb,3,none⟩ (.slice (some ⟨g,0,none⟩) (K.length+1) cap')=W3:=⟨_,rfl⟩
    have hxV:q9 (fun k=>(Value.slice ta K.length tc).ownBlock=some k) V w2:=((((q9.refl (fun _=>False) V).alloc _).drew).mono (fun _ _ f=>f.elim)).grown hgrow (fun k hk _=>hk)
    have hx3:q9 (fun k=>k=sb) w2 W3:=by rw [<- hW3];exact (q9.refl (fun k=>k=sb) w2).setCell (p:=⟨sb,3,none⟩) (fun _=>rfl) _
    have kb3:W3.heap[sb]?=some (.cells #[nv,ts,tm,(.slice (some ⟨g,0,none⟩) (K.length+1) cap'),.map (some mb),fs,ks,vd,ml] 98):=by rw [<- hW3];exact Y0 kb2 3 _
    have kx3:W3.heap[w.heap.size]?=some (.cells #[.string x.wd,.int .i64 x.i,.int .i64 x.j,.int .i64 x.b] 153):=(hx3.block _ (Nat.lt_of_lt_of_le hlX hxV.size) (by show ¬w.heap.size=sb;omega)).trans ((hxV.block _ hlX (fun e=>by have:=(H.out.own.lt _ e).2;omega)).trans KX.out)
    have ho3:W3.drew.ownsMap Tryz.prog 153 (plainElem Tryz.prog 3) mb K.length D:=Z4 (Z4 (Z4 HOV.out hxV (fun e=>HSEP.out mb e rfl)) hx3 HMS.out) ((q9.refl (fun _=>False) W3).drew) (fun f=>f)
    obtain ⟨W4,hst,how4,hturn⟩:=ho3.store zk6 Tryz.underlying84 (by unfold maxLen;omega) HKE.out (plainElem_int Tryz.underlying3 (zQ8 (n:=(K.length:Int)) ⟨by omega,by omega⟩))
    have e1:=z6 kb3 3
    have e2:=z6 kb3 4
    have y0:=z6 kx3 0
    have y1:=z6 kx3 1
    have y2:=z6 kx3 2
    have y3:=z6 kx3 3
    have HN:Hid (zi3 w sb nv ⟨ts,tm,.slice ta K.length tc,.map (some mb),fs,ks,vd,ml⟩ K x (.returned (.int .i64 K.length)) W4):=zK1 (xs:=⟨ts,tm,.slice ta K.length tc,.map (some mb),fs,ks,vd,ml⟩) H.out HX.out hin ((HV.out.alloc _).drew) hgrow hown2 (hat.imp id (fun e=>by have:=HV.out.size;omega)) (by
     rcases hat with e | e
     ·exact fun e3=>HSEP.out mb (e3 ▸ e) rfl
     ·have:=HOV.out.lt;omega) (by
     rcases hat with e | e
     ·exact HS1.out g e
     ·omega) HMS.out HMB.out hx3 HMF.out HTD.out how4 ((((q9.refl (fun _=>False) W3).drew).mono (fun _ _ f=>f.elim)).trans (O9 hturn)) kb3
    rw [hW3]
    clear hW3 hxV hx3 kb3 kx3 ho3 how4 hturn kb2 hown2 hgrow hat c1 c2 d1 d1f
    go_wp2_with fail
    go_region
    all_goals
     go_wp2_with fail
     go_ret
     exact HN.out
def zK3 (w:World) (sb:Nat) (nv:Value) (xs:PX) (K:List X9) (n:Nat) (w':World):Prop :=
 ∃ tv',w'.heap[sb]?=some (.cells #[nv,xs.ts,xs.tm,tv',xs.am,xs.fs,xs.ks,xs.vd,xs.ml] 98)/\zE8 w' tv' xs.am (K.take n)/\q9 (fun k=>k=sb\/xs.at_.ownBlock=some k\/U0 xs.am=some k) w w'/\tv'.ownBlock=xs.at_.ownBlock
theorem zW1 {K:List X9} {n:Nat} (hn:n<=K.length):(K.flatMap X9.cells).take (n * 4)=(K.take n).flatMap X9.cells:=by
 have hl:∀ l:List X9,(l.flatMap X9.cells).length=l.length * 4:=by
  intro l
  induction l with
  | nil=>rfl
  | cons a l ih=>simp only [List.flatMap_cons,List.length_append,List.length_cons,ih];simp [X9.cells];omega
 have e:K.flatMap X9.cells=(K.take n).flatMap X9.cells++(K.drop n).flatMap X9.cells:=by rw [<- List.flatMap_append,List.take_append_drop]
 rw [e,List.take_append_of_le_length (by rw [hl,List.length_take];omega),List.take_of_length_le (by rw [hl,List.length_take];omega)]
theorem qn5 {K:List X9} {i:Nat} {x:X9} (h:K[i]?=some x) (q:Nat) (hq:q < 4):(K.flatMap X9.cells)[i * 4+q]?=x.cells[q]?:=by
 obtain ⟨hi,hx⟩:=List.getElem?_eq_some_iff.1 h
 have hl:∀ l:List X9,(l.flatMap X9.cells).length=l.length * 4:=by
  intro l
  induction l with
  | nil=>rfl
  | cons a l ih=>simp only [List.flatMap_cons,List.length_append,List.length_cons,ih];simp [X9.cells];omega
 have e:K.take i++x :: K.drop (i+1)=K:=by rw [<- hx,List.getElem_cons_drop,List.take_append_drop]
 have e2:(K.take i++x :: K.drop (i+1)).flatMap X9.cells=(K.take i).flatMap X9.cells++(x.cells++(K.drop (i+1)).flatMap X9.cells):=by simp
 rw [e] at e2
 have hlt:((K.take i).flatMap X9.cells).length=i * 4:=by rw [hl,List.length_take];congr 1;omega
 have hc:x.cells.length=4:=rfl
 rw [e2,List.getElem?_append_right (by rw [hlt];omega),hlt,show i * 4+q - i * 4=q by omega,List.getElem?_append_left (by omega)]
theorem zp9 {w wr w2 W:World} {sb n:Nat} {nv v':Value} {xs:PX} {K:List X9} (h:zE8 w xs.at_ xs.am K) (hn:n<=K.length) (hs1:∀ k,xs.at_.ownBlock=some k->¬k=sb) (hs2:∀ k,U0 xs.am=some k->¬k=sb) (hE:q9 (fun k=>U0 xs.am=some k) w wr)
  (hm:(xs.am=.map none/\K=[])\/∃ mb D,xs.am=.map (some mb)/\wr.ownsMap Tryz.prog 153 (plainElem Tryz.prog 3) mb (n+(K.length - K.length)) D/\zi1 klA X9.Ok (zB8 K n K.length) K D (n+(K.length - K.length)))
  (hown:w2.ownsRow 0 153 4 v' n ((K.flatMap X9.cells).take (n * 4))) (hx:q9 (fun k=>xs.at_.ownBlock=some k) wr w2) (hob:v'.ownBlock=xs.at_.ownBlock) (hW:q9 (fun k=>k=sb) w2 W) (kW:W.heap[sb]?=some (.cells #[nv,xs.ts,xs.tm,v',xs.am,xs.fs,xs.ks,xs.vd,xs.ml] 98)):zK3 w sb nv xs K n W:=by
 refine ⟨v',kW,⟨?_,h.nd.sublist (List.take_sublist n K),fun k hk=>h.ok k (List.mem_of_mem_take hk),?_,fun k hk=>by rw [hob] at hk;exact h.sep k hk⟩,?_,hob⟩
 ·rw [zW1 hn] at hown
  have hl:(K.take n).length=n:=by rw [List.length_take];omega
  rw [hl]
  exact z7 hown hW (fun k hk=>by rw [hob] at hk;exact hs1 k hk)
 ·rcases hm with ⟨e1,e2⟩ | ⟨mb,D,e1,ho,hmf⟩
  ·exact .inl ⟨e1,by rw [e2];simp⟩
  ·refine .inr ⟨mb,D,e1,?_,zQ7 hmf hn⟩
   have hl:(K.take n).length=n+(K.length - K.length):=by rw [List.length_take];omega
   rw [hl]
   exact Z4 (Z4 ho hx (fun e=>h.sep mb e (by rw [e1];rfl))) hW (hs2 mb (by rw [e1];rfl))
 ·exact ((hE.mono (fun _ _ e=>.inr (.inr e))).trans' hx (fun _ _ e=>.inr (.inl e))).trans' hW (fun _ _ e=>.inl e)
set_option maxRecDepth 100000 in
set_option maxHeartbeats 1000000 in
theorem qn6 {w:World} {sb:Nat} {nv:Value} {xs:PX} {K:List X9} (n:Nat) (kb:w.heap[sb]?=some (.cells #[nv,xs.ts,xs.tm,xs.at_,xs.am,xs.fs,xs.ks,xs.vd,xs.ml] 98)) (h:zE8 w xs.at_ xs.am K) (hs1:∀ k,xs.at_.ownBlock=some k->¬k=sb) (hs2:∀ k,U0 xs.am=some k->¬k=sb) (hlen:K.length<=10000000) (hn:n<=K.length) :
  Calls Tryz.prog 66 #[.pointer (some ⟨sb,3,none⟩),.int .i64 n] w fun e w'=>e=.returned (.tuple #[])/\zK3 w sb nv xs K n w':=by
 obtain ⟨ts,tm,at_,am,fs,ks,vd,ml⟩:=xs
 simp only at kb h hs1 hs2
 have hsb:=z8 kb
 have hsh:(at_=.slice none 0 0/\K.length=0)\/∃ g tc,at_=.slice (some ⟨g,0,none⟩) K.length tc/\K.length<=tc/\tc<=9223372036854775807/\g < w.heap.size/\∀ q,q < K.length * 4->w.cell? ⟨g,q,none⟩=(K.flatMap X9.cells)[q]?:=by
  rcases h.own.2 with ⟨e,e0⟩ | ⟨g,cap,cur,hv,_,hh,h1,h2,_⟩
  ·exact .inl ⟨e,e0⟩
  ·refine .inr ⟨g,cap,hv,h1,by unfold maxLen at h2;exact h2,z8 hh,fun q hq=>?_⟩
   have h3:=h.own
   rw [hv] at h3
   exact h3.cellAt q hq
 rcases hsh with ⟨hts,hK0⟩ | ⟨g,tc,hts,htc,htc2,hgl,hcells⟩
 ·clear hlen
  have hKe:K=[]:=List.length_eq_zero_iff.1 hK0
  have hn0:n=0:=by omega
  subst hn0 hts
  have HM0:Hid ((am=.map none/\K=[])\/∃ mb D,am=.map (some mb)/\w.ownsMap Tryz.prog 153 (plainElem Tryz.prog 3) mb (0+(K.length - K.length)) D/\zi1 klA X9.Ok (zB8 K 0 K.length) K D (0+(K.length - K.length))):=by
   rcases h.map with e | ⟨mb,D,e,ho,hm⟩
   ·exact .inl e
   ·have hm2:=zl4 hm (Nat.zero_le _)
    refine .inr ⟨mb,D,e,?_,?_⟩
    ·rw [show 0+(K.length - K.length)=K.length by omega];exact ho
    ·rw [hK0] at hm2 ⊢;exact hm2
  have c1:=z6 kb 3
  have hlb:=hsb
  have H:=q8 h
  have KB:=q8 kb
  have HS1:=q8 hs1
  have HS2:=q8 hs2
  have HOR:=q8 (z7 h.own ((q9.refl (fun _=>False) w).drew) (fun _ _ f=>f))
  rw [hK0] at HOR
  clear h kb hs1 hs2
  go_enter Tryz.func66,Tryz.ntmps66
  go_wp2_with fail
  go_loopw [13] (fun i wr=>i=.int .i64 0/\wr=w) (fun _ _=>0)
  case atStart=>exact ⟨rfl,rfl⟩
  case round =>
   obtain ⟨rfl,rfl⟩:=hrel
   go_wp2_with fail
   go_region_law (go_simp;go_wp2_with (go_at_call 101;refine (qm5 HOR.out (Nat.le_refl 0) (by omega)).mono ?_;rintro e w2 ⟨v',rfl,hown2,hx2,hob⟩;obtain ⟨va,vc,rfl⟩:=j9 hown2;have kb2:w2.heap[sb]?=some (.cells #[nv,ts,tm,.slice none 0 0,am,fs,ks,vd,ml] 98):=(hx2.block sb hlb (fun e=>HS1.out sb e rfl)).trans KB.out;have d1:=z6 kb2 3;have d1f:=Q0 kb2 3))
   all_goals
    go_wp2_with fail
    go_end0
    refine ⟨rfl,?_⟩
    exact zp9 (xs:=⟨ts,tm,.slice none 0 0,am,fs,ks,vd,ml⟩) H.out (Nat.zero_le _) HS1.out HS2.out (q9.refl _ _) HM0.out hown2 (((q9.refl _ _).drew).trans hx2) hob ((q9.refl (fun k=>k=sb) w2).setCell (p:=⟨sb,3,none⟩) (fun _=>rfl) _) (Y0 kb2 3 _)
 ·by_cases hK0:K.length=0
  ·clear hlen hcells htc2
   rw [hK0] at hts
   have hKe:K=[]:=List.length_eq_zero_iff.1 hK0
   have hn0:n=0:=by omega
   subst hn0 hts
   have HM0:Hid ((am=.map none/\K=[])\/∃ mb D,am=.map (some mb)/\w.ownsMap Tryz.prog 153 (plainElem Tryz.prog 3) mb (0+(K.length - K.length)) D/\zi1 klA X9.Ok (zB8 K 0 K.length) K D (0+(K.length - K.length))):=by
    rcases h.map with e | ⟨mb,D,e,ho,hm⟩
    ·exact .inl e
    ·have hm2:=zl4 hm (Nat.zero_le _)
     refine .inr ⟨mb,D,e,?_,?_⟩
     ·rw [show 0+(K.length - K.length)=K.length by omega];exact ho
     ·rw [hK0] at hm2 ⊢;exact hm2
   have c1:=z6 kb 3
   have hlb:=hsb
   have H:=q8 h
   have KB:=q8 kb
   have HS1:=q8 hs1
   have HS2:=q8 hs2
   have HOR:=q8 (z7 h.own ((q9.refl (fun _=>False) w).drew) (fun _ _ f=>f))
   rw [hK0] at HOR
   clear h kb hs1 hs2
   go_enter Tryz.func66,Tryz.ntmps66
   go_wp2_with fail
   go_loopw [13] (fun i wr=>i=.int .i64 0/\wr=w) (fun _ _=>0)
   case atStart=>exact ⟨rfl,rfl⟩
   case round =>
    obtain ⟨rfl,rfl⟩:=hrel
    go_wp2_with fail
    go_region_law (go_simp;go_wp2_with (go_at_call 101;refine (qm5 HOR.out (Nat.le_refl 0) (by omega)).mono ?_;rintro e w2 ⟨v',rfl,hown2,hx2,hob⟩;obtain ⟨va,vc,rfl⟩:=j9 hown2;have kb2:w2.heap[sb]?=some (.cells #[nv,ts,tm,.slice (some ⟨g,0,none⟩) 0 tc,am,fs,ks,vd,ml] 98):=(hx2.block sb hlb (fun e=>HS1.out sb e rfl)).trans KB.out;have d1:=z6 kb2 3;have d1f:=Q0 kb2 3))
    all_goals
     go_wp2_with fail
     go_end0
     refine ⟨rfl,?_⟩
     exact zp9 (xs:=⟨ts,tm,.slice (some ⟨g,0,none⟩) 0 tc,am,fs,ks,vd,ml⟩) H.out (Nat.zero_le _) HS1.out HS2.out (q9.refl _ _) HM0.out hown2 (((q9.refl _ _).drew).trans hx2) hob ((q9.refl (fun k=>k=sb) w2).setCell (p:=⟨sb,3,none⟩) (fun _=>rfl) _) (Y0 kb2 3 _)
  subst hts
  rcases h.map with ⟨hmv,hK⟩ | ⟨mb,D,hmv,ho,hm⟩
  ·exact absurd (by rw [hK];rfl) hK0
  ·subst hmv
   obtain ⟨A,hA,hA2⟩:∃ A,(if tc=n then some (⟨g,0,none⟩:Addr) else some ⟨g,n * 4,none⟩)=some A/\(n < tc->A=⟨g,n * 4,none⟩):=by
    by_cases h:tc=n
    ·exact ⟨_,by rw [if_pos h],fun h2=>by omega⟩
    ·exact ⟨_,by rw [if_neg h],fun _=>rfl⟩
   have hnc:n<=tc:=by omega
   have c1:=z6 kb 3
   have HMF:=q8 (zl4 hm hn)
   have HO:=q8 ho
   have H:=q8 h
   have KB:=q8 kb
   have HCELLS:=q8 hcells
   have HA2:=q8 hA2
   have HS1:=q8 hs1
   have HS2:=q8 hs2
   have HMS:Hid (¬mb=sb):=hs2 mb rfl
   have hml:=ho.lt
   clear h kb ho hm hcells hA2 hs1 hs2
   go_enter Tryz.func66,Tryz.ntmps66
   go_wp2_with fail
   go_loopw [13] (fun i wr=>∃ (j:Nat) (D:DataW Unit),n<=j/\j<=K.length/\i=.int .i64 ((j - n:Nat):Int)/\q9 (fun k=>k=mb) w wr/\wr.ownsMap Tryz.prog 153 (plainElem Tryz.prog 3) mb (n+(K.length - j)) D/\zi1 klA X9.Ok (zB8 K n j) K D (n+(K.length - j))) (fun i _=>K.length - n - (intOf i).toNat)
   case atStart=>exact ⟨n,D,Nat.le_refl _,hn,by simp,q9.refl _ _,by rw [show n+(K.length - n)=K.length by omega];exact HO.out,HMF.out⟩
   case round =>
    clear c1
    obtain ⟨j,Dj,hj1,hj2,rfl,hE,hoj,hmj⟩:=hrel
    have kbr:=(hE.block sb hsb (fun e=>HMS.out e.symm)).trans KB.out
    have c1:=z6 kbr 3
    have c2:=z6 kbr 4
    have hlb:=z8 kbr
    have HE:=q8 hE
    have HOJ:=q8 hoj
    have HMJ:=q8 hmj
    have KBR:=q8 kbr
    clear hE hoj hmj kbr
    by_cases hlt:j < K.length
    ·obtain ⟨x,hx⟩:∃ x,K[j]?=some x:=⟨_,List.getElem?_eq_getElem hlt⟩
     have hAe:=HA2.out (by omega)
     subst hAe
     have hxo:=H.out.ok x (List.mem_of_getElem? hx)
     have hke:keyOf Tryz.prog 153 (.agg #[.string x.wd,.int .i64 x.i,.int .i64 x.j,.int .i64 x.b])=some (klA x):=zJ8 hxo
     have hgm:¬g=mb:=fun e=>H.out.sep g rfl (by rw [e];rfl)
     have hc:∀ q,q < 4->wr.cell? ⟨g,j * 4+q,none⟩=x.cells[q]?:=by
      intro q hq
      rw [HE.out.cell (p:=⟨g,j * 4+q,none⟩) hgl hgm,HCELLS.out _ (by omega)]
      exact qn5 hx q hq
     have z0:wr.cell? ⟨g,j * 4,none⟩=some (.string x.wd):=hc 0 (by decide)
     have z1:wr.cell? ⟨g,j * 4+1,none⟩=some (.int .i64 x.i):=hc 1 (by decide)
     have z2:wr.cell? ⟨g,j * 4+2,none⟩=some (.int .i64 x.j):=hc 2 (by decide)
     have z3:wr.cell? ⟨g,j * 4+3,none⟩=some (.int .i64 x.b):=hc 3 (by decide)
     have ho1:(wr.alloc (.cells #[.string x.wd,.int .i64 x.i,.int .i64 x.j,.int .i64 x.b] 153)).drew.ownsMap Tryz.prog 153 (plainElem Tryz.prog 3) mb (n+(K.length - j)) Dj:=(HOJ.out.alloc _).drew
     obtain ⟨W1,hdr,how,hturn⟩:=ho1.drop zk6 Tryz.underlying84 hke 0
     have HMN:=q8 (qd4 HMJ.out (HOJ.out.tidy zk6) H.out.nd H.out.ok (fun y hy e=>qv0 hy hxo e) hj1 hx)
     have hE1:q9 (fun k=>k=mb) w W1:=(((HE.out.alloc _).drew).trans (O9 hturn))
     have HE1:=q8 hE1
     have HOW:=q8 (zQ9 how HMN.out.size)
     have e4:n * 4+(j - n) * 4=j * 4:=by omega
     clear how hturn ho1 hke hx hc hE1
     go_wp2_with fail
     go_region
     all_goals
      go_wp2_with fail
      go_roundw
      case measure=>simp [intOf];omega
      case rel=>exact ⟨j+1,_,by omega,by omega,by congr 1;omega,HE1.out,HOW.out,HMN.out⟩
    ·have hjn:j=K.length:=by omega
     subst hjn
     have HOR:=q8 (z7 H.out.own HE.out.drew (fun k hk e=>H.out.sep k hk (by rw [e];rfl)))
     go_wp2_with fail
     go_region_law (go_simp;go_wp2_with (go_at_call 101;refine (qm5 HOR.out hn (by omega)).mono ?_;rintro e w2 ⟨v',rfl,hown2,hx2,hob⟩;obtain ⟨va,vc,rfl⟩:=j9 hown2;have kb2:w2.heap[sb]?=some (.cells #[nv,ts,tm,.slice (some ⟨g,0,none⟩) K.length tc,.map (some mb),fs,ks,vd,ml] 98):=(hx2.block sb hlb (fun e=>HS1.out sb e rfl)).trans KBR.out;have d1:=z6 kb2 3;have d1f:=Q0 kb2 3))
     all_goals
      go_wp2_with fail
      go_end0
      refine ⟨rfl,?_⟩
      exact zp9 (xs:=⟨ts,tm,.slice (some ⟨g,0,none⟩) K.length tc,.map (some mb),fs,ks,vd,ml⟩) H.out hn HS1.out HS2.out (HE.out.mono (fun _ _ e=>by rw [e];rfl)) (.inr ⟨mb,Dj,rfl,HOJ.out,HMJ.out⟩) hown2 (((q9.refl _ wr).drew).trans hx2) hob ((q9.refl (fun k=>k=sb) w2).setCell (p:=⟨sb,3,none⟩) (fun _=>rfl) _) (Y0 kb2 3 _)
def qv2:Nd->Int
 | .mk _ _ v _=>v
def bnd (ps:List Nd):Int:=match ps[2]? with
 | some nd=>qv2 nd
 | none=>0
noncomputable def keyA (T:List Nd):Nd->X9
 | .mk _ w _ ps=>⟨w,ix T (ps.take 2) 0,ix T (ps.take 2) 1,bnd ps⟩
def zo8 (x:Nd):List Nd:=(parts x).take 2
theorem qM8 {T T':List Nd} (h:T <+: T') {x:Nd} (hp:∀ p∈zo8 x,p∈T):keyA T' x=keyA T x:=by
 cases x with
 | mk k w v ps =>
  have hp':∀ p∈ps.take 2,p∈T:=hp
  simp only [keyA,qM1 h hp']
theorem qM9 {l:List UInt8} (h:AtW l):l.length<=2:=by
 rcases h with rfl | rfl | rfl | rfl <;> decide
theorem zn2 {x:Nd} (h:zq4 x):∃ w a b r,x=.mk 2 w 0 (a :: b :: r)/\AtW w.toList/\Y8 a/\Y8 b/\(r=[]\/∃ v,r=[.mk 5 ByteArray.empty v []] /\ -1000<=v/\v<=1000):=by
 cases h with
 | @two w a b hw ha hb =>
  refine ⟨w,a,b,[],rfl,?_,ha,hb,.inl rfl⟩
  rcases hw with h | h | h
  ·exact .inl h
  ·exact .inr (.inl h)
  ·exact .inr (.inr (.inl h))
 | @le w a b v hw ha hb h1 h2=>exact ⟨w,a,b,_,rfl,.inr (.inr (.inr hw)),ha,hb,.inr ⟨v,rfl,h1,h2⟩⟩
theorem qY6 {T:List Nd} {x:Nd} (hx:zq4 x) (hp:∀ p∈zo8 x,p∈T) (hl:T.length<=10000000):(keyA T x).Ok:=by
 obtain ⟨w,a,b,r,rfl,hw,_,_,hr⟩:=zn2 hx
 have hp':∀ p∈(a :: b :: r).take 2,p∈T:=hp
 have hsz:=qM9 hw
 rw [Z3] at hsz
 refine ⟨by show _<=_;simp only [keyA];omega,qd8 hp' hl 0,qd8 hp' hl 1,?_⟩
 rcases hr with rfl | ⟨v,rfl,h1,h2⟩
 ·exact sm0
 ·exact ⟨by show _<=_;simp [keyA,bnd,qv2];omega,by show _<=_;simp [keyA,bnd,qv2];omega⟩
theorem qN0 {T:List Nd} {x y:Nd} (hx:zq4 x) (hy:zq4 y) (hpx:∀ p∈zo8 x,p∈T) (hpy:∀ p∈zo8 y,p∈T) (h:keyA T x=keyA T y):x=y:=by
 have ex:∀ (w:ByteArray) (a b:Nd) (r:List Nd),(∀ p∈zo8 (.mk 2 w 0 (a :: b :: r)),p∈T)->a∈T/\b∈T:=by
  intro w a b r hp
  exact ⟨hp a (by simp [zo8,parts]),hp b (by simp [zo8,parts])⟩
 have ek:∀ (w:ByteArray) (a b:Nd) (r:List Nd),keyA T (.mk 2 w 0 (a :: b :: r))=⟨w,idx T a,idx T b,bnd (a :: b :: r)⟩:=by
  intro w a b r
  rfl
 cases hx with
 | @two w a b hw ha hb =>
  obtain ⟨m1,m2⟩:=ex _ _ _ _ hpx
  cases hy with
  | @two w' a' b' hw' ha' hb' =>
   obtain ⟨m3,m4⟩:=ex _ _ _ _ hpy
   rw [ek,ek] at h
   simp only [X9.mk.injEq] at h
   obtain ⟨rfl,e1,e2,_⟩:=h
   rw [zz4 m1 m3 (by omega),zz4 m2 m4 (by omega)]
  | @le w' a' b' v' hw' ha' hb' _ _ =>
   rw [ek,ek] at h
   simp only [X9.mk.injEq] at h
   have h1:=h.1
   rw [h1] at hw
   rw [hw'] at hw
   exact absurd hw (by decide)
 | @le w a b v hw ha hb _ _ =>
  obtain ⟨m1,m2⟩:=ex _ _ _ _ hpx
  cases hy with
  | @two w' a' b' hw' ha' hb' =>
   rw [ek,ek] at h
   simp only [X9.mk.injEq] at h
   rw [<- h.1,hw] at hw'
   exact absurd hw' (by decide)
  | @le w' a' b' v' hw' ha' hb' _ _ =>
   obtain ⟨m3,m4⟩:=ex _ _ _ _ hpy
   rw [ek,ek] at h
   simp only [X9.mk.injEq] at h
   obtain ⟨rfl,e1,e2,e3⟩:=h
   have e4:v=v':=e3
   rw [zz4 m1 m3 (by omega),zz4 m2 m4 (by omega),e4]
noncomputable def keysA (T A:List Nd):List X9:=A.map (keyA T)
theorem zl7 (T A:List Nd):(keysA T A).length=A.length:=by simp [keysA]
def AC (T A:List Nd):Prop:=∀ x∈A,zq4 x/\∀ p∈zo8 x,p∈T
theorem zR1 {T T' A:List Nd} (h:T <+: T') (hc:AC T A):keysA T' A=keysA T A:=by
 unfold keysA
 apply List.map_congr_left
 intro x hx
 exact qM8 h (hc x hx).2
theorem AC.pre {T T' A:List Nd} (h:AC T A) (hp:T <+: T'):AC T' A:=fun x hx=>⟨(h x hx).1,fun p hpp=>hp.subset ((h x hx).2 p hpp)⟩
theorem zR2 {T A:List Nd} {x:Nd} (hc:AC T A) (hx:zq4 x) (hp:∀ p∈zo8 x,p∈T):keysA T (putN A x)=putK (keysA T A) (keyA T x):=by
 by_cases hin:x∈A
 ·rw [zn6 hin,zs1 (show keyA T x∈keysA T A from List.mem_map.2 ⟨x,hin,rfl⟩)]
 ·have hno:¬keyA T x∈keysA T A:=by
   intro hm
   obtain ⟨y,hy,e⟩:=List.mem_map.1 hm
   have:=qN0 (hc y hy).1 hx (hc y hy).2 hp e
   exact hin (this ▸ hy)
  rw [zi9 hin,za7 hno]
  simp [keysA]
theorem qn8 {T A:List Nd} (n m:Nat) (hc:AC (T.take m) (A.take n)):keysA (T.take m) (A.take n)=(keysA T A).take n:=by
 have h1:=zR1 (List.take_prefix m T) hc
 unfold keysA at *
 rw [<- List.map_take,h1]
structure PSt (w:World) (sb:Nat) (nv:Value) (xs:PX) (T A:List Nd):Prop where
 ts:TS w sb nv xs T
 ar:zE8 w xs.at_ xs.am (keysA T A)
 ac:AC T A
 nd:A.Nodup
 s3:∀ k,xs.at_.ownBlock=some k->¬k=sb
 s4:∀ k,U0 xs.am=some k->¬k=sb
 ap:∀ k,TF sb xs k->¬xs.at_.ownBlock=some k/\¬U0 xs.am=some k
def PF (sb:Nat) (xs:PX) (k:Nat):Prop:=TF sb xs k\/xs.at_.ownBlock=some k\/U0 xs.am=some k
theorem PSt.lt {w:World} {sb:Nat} {nv:Value} {xs:PX} {T A:List Nd} (h:PSt w sb nv xs T A):∀ k,PF sb xs k->k < w.heap.size:=by
 rintro k (e | e | e)
 ·exact h.ts.lt k e
 ·exact (h.ar.own.lt k e).2
 ·rcases h.ar.map with ⟨e2,_⟩ | ⟨mb,D,e2,ho,_⟩
  ·rw [e2] at e;exact absurd e (by simp [U0])
  ·rw [e2] at e
   simp [U0] at e
   subst e
   exact ho.lt
theorem PSt.ext {S:Nat->Prop} {w w':World} {sb:Nat} {nv:Value} {xs:PX} {T A:List Nd} (h:PSt w sb nv xs T A) (hx:q9 S w w') (hS:∀ k,PF sb xs k->¬S k):PSt w' sb nv xs T A :=
 ⟨h.ts.ext hx (fun k hk=>hS k (.inl hk)),h.ar.ext hx (fun k hk=>hS k (.inr (.inl hk))) (fun k hk=>hS k (.inr (.inr hk))),h.ac,h.nd,h.s3,h.s4,h.ap⟩
def zi4 (w:World) (sb:Nat) (nv:Value) (xs:PX) (T' A':List Nd) (w':World):Prop :=
 ∃ ts' tm' at' am',PSt w' sb nv { xs with ts:=ts',tm:=tm',at_:=at',am:=am' } T' A'/\q9 (PF sb xs) w w'/\(∀ k,PF sb { xs with ts:=ts',tm:=tm',at_:=at',am:=am' } k->PF sb xs k\/w.heap.size<=k)
theorem qC7 {w w':World} {sb B:Nat} {nv:Value} {xs:PX} {T T' A:List Nd} {ts' tm':Value} (h:PSt w sb nv xs T A) (hB:w.heap.size<=B) (hpre:T <+: T') (h2:TS w' sb nv { xs with ts:=ts',tm:=tm' } T') (hE:q9 (TF sb xs) w w') (hF:∀ k,TF sb { xs with ts:=ts',tm:=tm' } k->TF sb xs k\/B<=k) :
  PSt w' sb nv { xs with ts:=ts',tm:=tm' } T' A:=by
 refine ⟨h2,?_,h.ac.pre hpre,h.nd,h.s3,h.s4,fun k hk=>?_⟩
 ·rw [zR1 hpre h.ac]
  exact h.ar.ext hE (fun g hg hf=>(h.ap g hf).1 hg) (fun g hg hf=>(h.ap g hf).2 hg)
 ·rcases hF k hk with e | e
  ·exact h.ap k e
  ·exact ⟨fun e2=>by have:=h.lt k (.inr (.inl e2));omega,fun e2=>by have:=h.lt k (.inr (.inr e2));omega⟩
theorem qn9 {T A:List Nd} {x:Nd} (hc:AC T A) (hx:zq4 x) (hp:∀ p∈zo8 x,p∈T) (hnd:(keysA T (putN A x)).Nodup) {i:Nat} (h:(putK (keysA T A) (keyA T x))[i]?=some (keyA T x)):i=idx (putN A x) x:=by
 rw [<- zR2 hc hx hp] at h
 have hm:x∈putN A x:=zg3.2 (.inr rfl)
 have h1:(keysA T (putN A x))[idx (putN A x) x]?=some (keyA T x):=by
  unfold keysA
  rw [List.getElem?_map,zc2 hm]
  rfl
 obtain ⟨hi,e1⟩:=List.getElem?_eq_some_iff.1 h
 obtain ⟨hj,e2⟩:=List.getElem?_eq_some_iff.1 h1
 have hpw:=List.pairwise_iff_getElem.1 hnd
 rcases Nat.lt_trichotomy i (idx (putN A x) x) with hlt | heq | hgt
 ·exact absurd (e1.trans e2.symm) (hpw _ _ hi hj hlt)
 ·exact heq
 ·exact absurd (e2.trans e1.symm) (hpw _ _ hj hi hgt)
theorem qC8 {w:World} {sb:Nat} {nv:Value} {xs:PX} {T A:List Nd} {x:Nd} (h:PSt w sb nv xs T A) (hx:zq4 x) (hp:∀ p∈zo8 x,p∈T) (hl:T.length<=10000000) (hl2:A.length<=10000000) :
  Calls Tryz.prog 149 #[.pointer (some ⟨sb,3,none⟩),(keyA T x).val] w fun e w'=>e=.returned (.int .i64 (idx (putN A x) x:Nat))/\zi4 w sb nv xs T (putN A x) w':=by
 refine (qn2 (keyA T x) h.ts.blk h.ar (qY6 hx hp hl) h.s3 h.s4 (by rw [zl7];exact hl2)).mono ?_
 rintro e w' ⟨i,tv',mv',rfl,hi,hb,hr,hE,h1,h2⟩
 rw [<- zR2 h.ac hx hp] at hr
 have hpl:=qn9 h.ac hx hp hr.nd hi
 subst hpl
 have hsb:=z8 h.ts.blk
 have hlt:=h.lt
 refine ⟨rfl,xs.ts,xs.tm,tv',mv',⟨⟨hb,h.ts.row.ext hE ?_ ?_,h.ts.cl,h.ts.nd,h.ts.s1,h.ts.s2⟩,hr,?_,zj0 h.nd,?_,?_,?_⟩,?_,?_⟩
 ·rintro g hg (e | e | e)
  ·exact h.ts.s1 g hg e
  ·exact (h.ap g (.inr (.inl hg))).1 e
  ·exact (h.ap g (.inr (.inl hg))).2 e
 ·rintro g hg (e | e | e)
  ·exact h.ts.s2 g hg e
  ·exact (h.ap g (.inr (.inr hg))).1 e
  ·exact (h.ap g (.inr (.inr hg))).2 e
 ·intro y hy
  rcases zg3.1 hy with hy | rfl
  ·exact h.ac y hy
  ·exact ⟨hx,hp⟩
 ·intro k hk e
  rcases h1 k hk with h' | h'
  ·exact h.s3 k h' e
  ·omega
 ·intro k hk e
  rcases h2 k hk with h' | h'
  ·exact h.s4 k h' e
  ·omega
 ·intro k hk
  have hk':TF sb xs k:=hk
  have hkl:=hlt k (.inl hk')
  refine ⟨fun e=>?_,fun e=>?_⟩
  ·rcases h1 k e with h' | h'
   ·exact (h.ap k hk').1 h'
   ·omega
  ·rcases h2 k e with h' | h'
   ·exact (h.ap k hk').2 h'
   ·omega
 ·exact hE.mono (fun k _ e=>e.elim (fun e=>.inl (.inl e)) (fun e=>.inr e))
 ·rintro k (e | e | e)
  ·exact .inl (.inl e)
  ·exact (h1 k e).imp (fun h=>.inr (.inl h)) id
  ·exact (h2 k e).imp (fun h=>.inr (.inr h)) id
noncomputable def acs (w:ByteArray) (T es:List Nd) (j:Nat) (bd:Int):Array Value:=#[.string w,.int .i64 (if 0 < j then ix T es 0 else 0),.int .i64 (if 1 < j then ix T es 1 else 0),.int .i64 bd]
theorem qW6 {w:ByteArray} {T es:List Nd} {j:Nat} {bd:Int} (hj:j < 2):(acs w T es j bd).setIfInBounds (1+j) (.int .i64 (ix T es j))=acs w T es (j+1) bd:=by
 match j,hj with
 | 0,_=>rfl
 | 1,_=>rfl
theorem ji8 {w:ByteArray} {T es:List Nd} {j:Nat} {bd bd':Int}:(acs w T es j bd).setIfInBounds 3 (.int .i64 bd')=acs w T es j bd':=rfl
theorem qL3 {w:ByteArray} {T es:List Nd} {bd:Int}:acs w T es 2 bd=#[.string w,.int .i64 (ix T es 0),.int .i64 (ix T es 1),.int .i64 bd]:=rfl
theorem qc5 {w:ByteArray} {T es:List Nd} {j q:Nat} {bd:Int} (hq:q < 4):∃ u,(acs w T es j bd)[q]?=some u:=⟨_,Array.getElem?_eq_getElem (by simpa [acs] using hq)⟩
structure AW2 (w:World) (sb nb ab:Nat) (nv:Value) (xs:PX) (T:List Nd) (word:ByteArray) (pv:Value) (es:List Nd) (j:Nat) (wr:World):Prop where
 ext:q9 (TF sb xs) w wr
 nbk:wr.heap[nb]?=some (.cells #[.int .i64 2,.string word,.int .i64 0,pv] 115)
 abk:wr.heap[ab]?=some (.cells (acs word (addTs T es) es j 0) 153)
 ts:∃ ts' tm',TS wr sb nv { xs with ts:=ts',tm:=tm' } (addTs T (es.take j))/\(∀ q,TF sb { xs with ts:=ts',tm:=tm' } q->TF sb xs q\/w.heap.size+2<=q)
theorem qW7 {w wr V w2:World} {sb:Nat} {nv pv:Value} {xs:PX} {T:List Nd} {word:ByteArray} {es:List Nd} {j:Nat} {p:Nd} {ts1 tm1 ts2 tm2:Value} (hes:∀ p∈es,Y8 p) (h:AW2 w sb w.heap.size (w.heap.size+1) nv xs T word pv es j wr) (hlt:∀ q,TF sb xs q->q < w.heap.size) (hl:w.heap.size+2<=wr.heap.size) (hx:q9 (fun _=>False) wr V)
  (hf1:∀ q,TF sb { xs with ts:=ts1,tm:=tm1 } q->TF sb xs q\/w.heap.size+2<=q) (h2:TS w2 sb nv { xs with ts:=ts2,tm:=tm2 } (addT (addTs T (es.take j)) p)) (hE:q9 (TF sb { xs with ts:=ts1,tm:=tm1 }) V w2) (hf2:∀ q,TF sb { xs with ts:=ts2,tm:=tm2 } q->TF sb { xs with ts:=ts1,tm:=tm1 } q\/V.heap.size<=q)
  (hp:es[j]?=some p) (hj:j < 2):w2.heap[w.heap.size+1]?=some (.cells (acs word (addTs T es) es j 0) 153)/\AW2 w sb w.heap.size (w.heap.size+1) nv xs T word pv es (j+1) (w2.setCell ⟨w.heap.size+1,1+j,none⟩ (.int .i64 (idx (addT (addTs T (es.take j)) p) p:Nat))):=by
 have hno:∀ q,q < w.heap.size+2->w.heap.size<=q->¬TF sb { xs with ts:=ts1,tm:=tm1 } q:=by
  intro q h1 h2 h3
  rcases hf1 q h3 with e | e
  ·have:=hlt q e;omega
  ·omega
 have s1:=hx.size
 have kt:w2.heap[w.heap.size+1]?=some (.cells (acs word (addTs T es) es j 0) 153):=(hE.block _ (by omega) (hno _ (by omega) (by omega))).trans ((hx.block _ (by omega) (fun f=>f)).trans h.abk)
 have kn:w2.heap[w.heap.size]?=some (.cells #[.int .i64 2,.string word,.int .i64 0,pv] 115):=(hE.block _ (by omega) (hno _ (by omega) (Nat.le_refl _))).trans ((hx.block _ (by omega) (fun f=>f)).trans h.nbk)
 have hxs:q9 (fun q=>q=w.heap.size+1) w2 (w2.setCell ⟨w.heap.size+1,1+j,none⟩ (.int .i64 (idx (addT (addTs T (es.take j)) p) p:Nat))):=(q9.refl (fun q=>q=w.heap.size+1) w2).setCell (p:=⟨w.heap.size+1,1+j,none⟩) (fun _=>rfl) _
 have hf:∀ q,TF sb { xs with ts:=ts2,tm:=tm2 } q->TF sb xs q\/w.heap.size+2<=q:=by
  intro q hq
  rcases hf2 q hq with e | e
  ·exact hf1 q e
  ·exact .inr (by omega)
 refine ⟨kt,⟨?_,?_,?_,ts2,tm2,?_,hf⟩⟩
 ·refine ((h.ext.trans' (hx.mono (fun _ _ f=>f.elim)) (fun _ _ e=>e)).trans' hE (fun q hq e=>?_)).trans' hxs (fun q hq e=>?_)
  ·rcases hf1 q e with e | e
   ·exact e
   ·omega
  ·omega
 ·exact (hxs.block _ (z8 kn) (by show ¬w.heap.size=w.heap.size+1;omega)).trans kn
 ·have e:=Y0 kt (1+j) (.int .i64 (idx (addT (addTs T (es.take j)) p) p:Nat))
  rw [zs4 hes hp,qW6 hj] at e
  rw [zs4 hes hp]
  exact e
 ·have e:addTs T (es.take (j+1))=addT (addTs T (es.take j)) p:=by rw [List.take_add_one,hp];exact zw2 T _ p
  rw [e]
  refine h2.ext hxs (fun q hq e=>?_)
  rcases hf q hq with h | h
  ·have:=hlt q h;omega
  ·omega
theorem ji9 {w:World} {D:Nat->Prop} {k v:Int} {wd:ByteArray} {pv:Value} {p:Nd} (h:PN w D [.int .i64 k,.string wd,.int .i64 v,pv] p):qv2 p=v:=by
 cases h
 rfl
theorem qL4 (T:List Nd) (w:ByteArray) (k v:Int) (a b:Nd) (r:List Nd):(keyA T (.mk k w v (a :: b :: r))).val=.agg #[.string w,.int .i64 (ix T [a,b] 0),.int .i64 (ix T [a,b] 1),.int .i64 (bnd (a :: b :: r))]:=rfl
set_option maxRecDepth 100000 in
set_option maxHeartbeats 1000000 in
theorem qL5 {w:World} {sb:Nat} {nv:Value} {xs:PX} {T A:List Nd} {word:ByteArray} {a b:Nd} {r:List Nd} {g pc:Nat} {D:Nat->Prop} (h:PSt w sb nv xs T A) (hx:zq4 (.mk 2 word 0 (a :: b :: r))) (hr:r.length<=1) (ha:Y8 a) (hb:Y8 b) (hlen:T.length+(Q8 true [a,b]).length<=9000000) (hlA:A.length<=9000000) (hpc:(a :: b :: r).length<=pc) (hpc2:pc<=9223372036854775807)
  (hkid:∀ (i:Nat) (p:Nd),(a :: b :: r)[i]?=some p->∃ g' k' wd' v' pa' pn' pc',some (⟨g,0,none⟩:Addr)=some ⟨g',0,none⟩/\g' < w.heap.size/\D g'/\w.cell? ⟨g',i * 4,none⟩=some (.int .i64 k')/\w.cell? ⟨g',i * 4+1,none⟩=some (.string wd')/\w.cell? ⟨g',i * 4+2,none⟩=some (.int .i64 v')/\w.cell? ⟨g',i * 4+3,none⟩=some (.slice pa' pn' pc')/\PN w D [.int .i64 k',.string wd',.int .i64 v',.slice pa' pn' pc'] p)
  (hDl:∀ k,D k->k < w.heap.size) (hDT:∀ k,D k->¬PF sb xs k) :
  Calls Tryz.prog 111 #[.pointer (some ⟨sb,1,none⟩),.agg #[.int .i64 2,.string word,.int .i64 0,.slice (some ⟨g,0,none⟩) (a :: b :: r).length pc]] w fun e w'=>e=.returned (.int .i64 (idx (putN A (.mk 2 word 0 (a :: b :: r))) (.mk 2 word 0 (a :: b :: r)):Nat))/\zi4 w sb nv xs (addTs T [a,b]) (putN A (.mk 2 word 0 (a :: b :: r))) w':=by
 obtain ⟨n,hn⟩:∃ n,(a :: b :: r).length=n:=⟨_,rfl⟩
 have hn2:2<=n:=by rw [<- hn];simp
 have hn3:n<=3:=by rw [<- hn];simp;omega
 have hsb:=z8 h.ts.blk
 have HLT:=q8 h.ts.lt
 have HLTP:=q8 h.lt
 have H:=q8 h
 have HAX:=q8 hx
 have hes:∀ p∈[a,b],Y8 p:=by
  intro p hp
  simp at hp
  rcases hp with rfl | rfl
  ·exact ha
  ·exact hb
 have HES:=q8 hes
 have HLEN:=q8 hlen
 have HKID:=q8 hkid
 have HDL:=q8 hDl
 have HDT:=q8 hDT
 have HNR:Hid ((a :: b :: r).length=n):=hn
 have hTW:AW2 w sb w.heap.size (w.heap.size+1) nv xs T word (.slice (some ⟨g,0,none⟩) n pc) [a,b] 0 ((w.alloc (.cells #[.int .i64 2,.string word,.int .i64 0,.slice (some ⟨g,0,none⟩) n pc] 115)).alloc (.cells #[.string word,.int .i64 0,.int .i64 0,.int .i64 0] 153)):=by
  have hx:q9 (fun _=>False) w ((w.alloc (.cells #[.int .i64 2,.string word,.int .i64 0,.slice (some ⟨g,0,none⟩) n pc] 115)).alloc (.cells #[.string word,.int .i64 0,.int .i64 0,.int .i64 0] 153)):=((q9.refl _ w).alloc _).alloc _
  refine ⟨hx.mono (fun _ _ f=>f.elim),?_,?_,xs.ts,xs.tm,?_,fun q hq=>.inl hq⟩
  ·rw [heap_alloc_old _ _ (by simp)];exact heap_alloc_new w _
  ·exact heap_alloc2_new w _ _
  ·simp only [List.take_zero,addTs]
   exact h.ts.ext hx (fun _ _ f=>f)
 have HTW:=q8 hTW
 rw [hn] at hpc ⊢
 clear h hx hes hlen hkid hDl hDT hTW hn ha hb hr
 go_enter Tryz.func111,Tryz.ntmps111
 go_wp2_with fail
 go_loopw [12] (fun i wr=>∃ (j:Nat),j<=2/\i=.int .i64 j/\w.heap.size+2<=wr.heap.size/\AW2 w sb w.heap.size (w.heap.size+1) nv xs T word (.slice (some ⟨g,0,none⟩) n pc) [a,b] j wr) (fun i _=>2 - (intOf i).toNat)
 case atStart=>exact ⟨0,Nat.zero_le _,rfl,by simp,HTW.out⟩
 case round =>
  clear HTW
  obtain ⟨j,hj,rfl,hws,htw⟩:=hrel
  have n3:=z6 htw.nbk 3
  have HTW:=q8 htw
  clear htw
  by_cases hlt:j < 2
  ·obtain ⟨p,hp⟩:∃ p,[a,b][j]?=some p:=⟨_,List.getElem?_eq_getElem (by simpa using hlt)⟩
   have hpf:(a :: b :: r)[j]?=some p:=by
    match j,hlt,hp with
    | 0,_,hp=>exact hp
    | 1,_,hp=>exact hp
   obtain ⟨g',k',wd',v',pa',pn',pc',hge,hgl,hDg,z0,z1,z2,z3,hpn⟩:=HKID.out j p hpf
   cases hge
   rw [<- HTW.out.ext.cell (p:=⟨g,j * 4,none⟩) hgl (fun e=>HDT.out g hDg (.inl e))] at z0
   rw [<- HTW.out.ext.cell (p:=⟨g,j * 4+1,none⟩) hgl (fun e=>HDT.out g hDg (.inl e))] at z1
   rw [<- HTW.out.ext.cell (p:=⟨g,j * 4+2,none⟩) hgl (fun e=>HDT.out g hDg (.inl e))] at z2
   rw [<- HTW.out.ext.cell (p:=⟨g,j * 4+3,none⟩) hgl (fun e=>HDT.out g hDg (.inl e))] at z3
   have hjn:j < n:=by omega
   have HP:=q8 hp
   have HPN:=q8 hpn
   obtain ⟨ts1,tm1,hts1,hf1⟩:=HTW.out.ts
   have HTS1:=q8 hts1
   have HF1:=q8 hf1
   have HMEM:=q8 (List.mem_of_getElem? hp)
   clear hp hpf hpn hgl hDg hts1 hf1
   go_wp2_with fail
   refine (qC6 (HES.out p HMEM.out) wr _ _ D k' wd' v' pa' pn' pc' (HPN.out.ext HTW.out.ext (fun k _ hd e=>HDT.out k hd (.inl e))) (fun k hd=>by have:=HDL.out k hd;omega) (fun k hd hq=>by
    rcases HF1.out k hq with e | e
    ·exact HDT.out k hd (.inl e)
    ·have:=HDL.out k hd;omega) HTS1.out (by
    have h1:=zs2 (ps:=[a,b].take j) (fun q hq=>HES.out q (List.mem_of_mem_take hq)) T
    have h2:=zs3 true HP.out
    have h3:=HLEN.out
    omega)).mono ?_
   rintro e w2 ⟨rfl,ts2,tm2,hTS2,hE2,hF2⟩
   obtain ⟨kt,htw2⟩:=qW7 HES.out HTW.out HLT.out hws (q9.refl _ wr) HF1.out hTS2 hE2 hF2 HP.out hlt
   have hsz2:w.heap.size+2<=w2.heap.size:=by have:=hE2.size;omega
   obtain ⟨u,hu⟩:=qc5 (w:=word) (T:=addTs T [a,b]) (es:=[a,b]) (j:=j) (q:=1+j) (bd:=0) (by omega)
   have tc:=(z6 kt (1+j)).trans hu
   have tf:=Q0 kt (1+j)
   have HT2:=q8 htw2
   clear hTS2 hE2 hF2 kt htw2 hu n3 z0 z1 z2 z3
   go_wp2_with fail
   go_roundw
   case measure=>simp [intOf];omega
   case rel=>exact ⟨j+1,by omega,by go_num,by simpa using hsz2,HT2.out⟩
  ·have hj2:j=2:=by omega
   subst hj2
   obtain ⟨B,hB,hB2⟩:∃ B,(if pc=2 then some (⟨g,0,none⟩:Addr) else some ⟨g,8,none⟩)=some B/\(2 < pc->B=⟨g,8,none⟩):=by
    by_cases h:pc=2
    ·exact ⟨_,by rw [if_pos h],fun h2=>by omega⟩
    ·exact ⟨_,by rw [if_neg h],fun _=>rfl⟩
   have HB2:=q8 hB2
   have h2c:2<=pc:=by omega
   clear hB2
   obtain ⟨w1,hw1⟩:∃ w1,w1=wr:=⟨_,rfl⟩
   subst hw1
   go_wp2_with fail
   go_loopw [30] (fun i wq=>∃ (q:Nat),q<=n - 2/\i=.int .i64 q/\q9 (fun k=>k=w.heap.size+1) w1 wq/\wq.heap[w.heap.size+1]?=some (.cells (acs word (addTs T [a,b]) [a,b] 2 (if 0 < q then bnd (a :: b :: r) else 0)) 153)) (fun i _=>n - 2 - (intOf i).toNat)
   case atStart=>exact ⟨0,Nat.zero_le _,rfl,q9.refl _ _,HTW.out.abk⟩
   case round =>
    obtain ⟨q,hq,rfl,hEq,hab⟩:=hrel
    have HEQ:=q8 hEq
    have HAB:=q8 hab
    clear hEq hab n3
    by_cases hlt2:q < n - 2
    ·have hq0:q=0:=by omega
     subst hq0
     obtain ⟨p,hp⟩:∃ p,(a :: b :: r)[2]?=some p:=⟨_,List.getElem?_eq_getElem (by rw [HNR.out];omega)⟩
     obtain ⟨g',k',wd',v',pa',pn',pc',hge,hgl,hDg,z0,z1,z2,z3,hpn⟩:=HKID.out 2 p hp
     cases hge
     have hE0:=HTW.out.ext
     have hxg:∀ o,wr.cell? ⟨g,o,none⟩=w.cell? ⟨g,o,none⟩:=fun o=>by
      rw [HEQ.out.cell (p:=⟨g,o,none⟩) (by show g < _;have:=hE0.size;omega) (by show ¬g=_;omega)]
      exact hE0.cell (p:=⟨g,o,none⟩) hgl (fun e=>HDT.out g hDg (.inl e))
     rw [<- hxg] at z0 z1 z2 z3
     have hbv:bnd (a :: b :: r)=v':=by unfold bnd;rw [hp];exact ji9 hpn
     have hBe:=HB2.out (by omega)
     subst hBe
     have ab3:=z6 HAB.out 3
     have ab3f:=Q0 HAB.out 3
     have hlab:=z8 HAB.out
     have HBV:=q8 hbv
     obtain ⟨u,hu⟩:=qc5 (w:=word) (T:=addTs T [a,b]) (es:=[a,b]) (j:=2) (q:=3) (bd:=if 0 < 0 then bnd (a :: b :: r) else 0) (by omega)
     rw [hu] at ab3
     clear hp hpn hxg hE0 hbv hu hgl hDg
     go_wp2_with fail
     go_roundw
     case measure=>simp [intOf];omega
     case rel =>
      refine ⟨1,by omega,by go_num,?_,?_⟩
      ·exact ((HEQ.out.setCell (p:=⟨w.heap.size+1,3,none⟩) (fun _=>rfl) _).alloc _)
      ·rw [heap_alloc_old _ _ (by simpa using hlab)]
       have e:=Y0 HAB.out 3 (.int .i64 v')
       rw [ji8] at e
       rw [if_pos (by omega),HBV.out]
       exact e
    ·have hqn:q=n - 2:=by omega
     have hbd:(if 0 < q then bnd (a :: b :: r) else 0)=bnd (a :: b :: r):=by
      by_cases h0:0 < q
      ·rw [if_pos h0]
      ·rw [if_neg h0]
       unfold bnd
       rw [List.getElem?_eq_none (by rw [HNR.out];omega)]
     have hab2:=HAB.out
     rw [hbd,qL3] at hab2
     have y0:=z6 hab2 0
     have y1:=z6 hab2 1
     have y2:=z6 hab2 2
     have y3:=z6 hab2 3
     obtain ⟨ts1,tm1,hts1,hf1⟩:=HTW.out.ts
     have hts1':TS w1 sb nv { xs with ts:=ts1,tm:=tm1 } (addTs T [a,b]):=hts1
     obtain ⟨xz,hadd,_⟩:=zf0 HES.out T
     have hpst:=qC7 H.out (Nat.le_refl _) hadd.pre hts1' HTW.out.ext (fun k hk=>(hf1 k hk).imp id (fun e=>by omega))
     have hpq:PSt wr.drew sb nv { xs with ts:=ts1,tm:=tm1 } (addTs T [a,b]) A:=(hpst.ext HEQ.out (fun k hk e=>by
      rcases hk with hk | hk | hk
      ·rcases hf1 k hk with e2 | e2
       ·have:=HLT.out k e2;omega
       ·omega
      ·have:=HLTP.out k (.inr (.inl hk));omega
      ·have:=HLTP.out k (.inr (.inr hk));omega)).ext ((q9.refl (fun _=>False) wr).drew) (fun _ _ f=>f)
     have hc:=qC8 hpq HAX.out (zR0 HES.out T) (by have:=zs2 HES.out T;have:=HLEN.out;omega) (by omega)
     rw [qL4] at hc
     have HC:=q8 hc
     have HF1:=q8 hf1
     clear hc hf1 hts1 hts1' hadd hpst hpq hab2 hbd
     have HE1:=q8 HTW.out.ext
     clear HTW
     go_wp2_with fail
     go_region_law (go_simp;go_wp2_with (go_at_call 149;refine HC.out.mono ?_;rintro e w2 ⟨rfl,hap⟩;have HAP:=q8 hap;clear hap))
     all_goals
      go_wp2_with fail
      go_ret
      refine ⟨rfl,?_⟩
      obtain ⟨ts2,tm2,at2,am2,k1,k2,k3⟩:=HAP.out
      have s1:=HE1.out.size
      have s2:=HEQ.out.size
      have hpf1:∀ q,PF sb { xs with ts:=ts1,tm:=tm1 } q->PF sb xs q\/w.heap.size+2<=q:=by
       rintro q (e | e | e)
       ·exact (HF1.out q e).imp .inl id
       ·exact .inl (.inr (.inl e))
       ·exact .inl (.inr (.inr e))
      refine ⟨ts2,tm2,at2,am2,k1,?_,?_⟩
      ·refine (((HE1.out.mono (fun _ _ e=>Or.inl e)).trans' HEQ.out (fun q hq e=>by omega)).trans' (((q9.refl (PF sb _) wr).drew).trans k2) (fun q hq e=>?_))
       rcases hpf1 q e with e | e
       ·exact e
       ·omega
      ·intro q hq
       rcases k3 q hq with e | e
       ·exact (hpf1 q e).imp id (fun e=>by omega)
       ·have e2:wr.heap.size<=q:=e
        exact .inr (by omega)
structure V8 (T T' xs:List Nd):Prop where
 pre:T <+: T'
 mem:∀ y,y∈T'↔y∈T\/y∈xs
 len:T'.length<=T.length+xs.length
 nd:T.Nodup->T'.Nodup
theorem V8.refl (T:List Nd):V8 T T []:=⟨List.prefix_refl _,fun y=>by simp,by simp,id⟩
theorem V8.trans {T T' T'' xs ys:List Nd} (h:V8 T T' xs) (k:V8 T' T'' ys):V8 T T'' (xs++ys) :=
 ⟨h.pre.trans k.pre,fun y=>by rw [k.mem,h.mem];simp [or_assoc],by rw [List.length_append];have:=h.len;have:=k.len;omega,fun e=>k.nd (h.nd e)⟩
theorem V8.cast {T T' xs ys:List Nd} (h:V8 T T' xs) (e:xs=ys):V8 T T' ys:=e ▸ h
inductive FT (w:World) (D:Nat->Prop) (A:List Nd):List Value->Nd->Prop
 | atom {word:ByteArray} {v:Int} {ps:List Nd} (hm:.mk 2 word v ps∈A):FT w D A [.int .i64 2,.string ⟨#[]⟩,.int .i64 (idx A (.mk 2 word v ps)),.slice none 0 0] (.mk 2 word v ps)
 | node {k v:Int} {word:ByteArray} {ps:List Nd} {pv:Value} {kids:List (List Value)} (h2:¬k=2)
   (how:w.ownsRow 0 112 4 pv ps.length kids.flatten) (hl:∀ cs∈kids,cs.length=4) (hn:kids.length=ps.length) (hD:∀ g,pv.ownBlock=some g->D g)
   (hk:∀ (i:Nat) (cs:List Value) (p:Nd),kids[i]?=some cs->ps[i]?=some p->FT w D A cs p):FT w D A [.int .i64 k,.string word,.int .i64 0,pv] (.mk k word v ps)
theorem FT.ext {S D:Nat->Prop} {w w':World} {A:List Nd} {cs:List Value} {nd:Nd} (h:FT w D A cs nd) (hx:q9 S w w') (hS:∀ k,k < w.heap.size->D k->¬S k):FT w' D A cs nd:=by
 induction h with
 | atom hm=>exact .atom hm
 | node h2 how hl hn hD hk ih=>exact .node h2 (z7 how hx (fun k hk=>hS k (how.lt k hk).2 (hD k hk))) hl hn hD (fun i cs p h1 h3=>ih i cs p h1 h3)
theorem FT.mono {D D':Nat->Prop} {w:World} {A:List Nd} {cs:List Value} {nd:Nd} (h:FT w D A cs nd) (hl':∀ k,k < w.heap.size->D k->D' k):FT w D' A cs nd:=by
 induction h with
 | atom hm=>exact .atom hm
 | node h2 how hl hn hD hk ih=>exact .node h2 how hl hn (fun g hg=>hl' g (how.lt g hg).2 (hD g hg)) (fun i cs p h1 h3=>ih i cs p h1 h3)
theorem FT.pre {D:Nat->Prop} {w:World} {A A':List Nd} {cs:List Value} {nd:Nd} (h:FT w D A cs nd) (hp:A <+: A'):FT w D A' cs nd:=by
 induction h with
 | atom hm =>
  have h1:=FT.atom (w:=w) (D:=D) (A:=A') (hp.subset hm)
  rw [zG1 hp hm] at h1
  exact h1
 | node h2 how hl hn hD hk ih=>exact .node h2 how hl hn hD (fun i cs p h1 h3=>ih i cs p h1 h3)
theorem FT.len {D:Nat->Prop} {w:World} {A:List Nd} {cs:List Value} {nd:Nd} (h:FT w D A cs nd):cs.length=4:=by
 cases h <;> rfl
theorem FT.free {D:Nat->Prop} {w:World} {sb:Nat} {nv:Value} {xs:PX} {T A A':List Nd} {cs:List Value} {nd:Nd} (h:FT w D A' cs nd) (hp:PSt w sb nv xs T A):FT w (fun q=>D q/\¬PF sb xs q) A' cs nd:=by
 induction h with
 | atom hm=>exact .atom hm
 | node h2 how hl hn hD hk ih =>
  refine .node h2 how hl hn (fun g hg=>⟨hD g hg,?_⟩) (fun i cs p h1 h3=>ih i cs p h1 h3)
  obtain ⟨cur,hc⟩:=Y6 how hg
  rintro ((e | e | e) | e | e)
  ·rw [e,hp.ts.blk] at hc
   simp at hc
  ·exact Z6 hp.ts.row.own hc (by decide) e
  ·rcases hp.ts.row.map with ⟨e2,_⟩ | ⟨mb,M,e2,ho,_⟩
   ·rw [e2] at e;exact absurd e (by simp [U0])
   ·rw [e2] at e
    simp [U0] at e
    subst e
    obtain ⟨es,cl,h5,_⟩:=ho
    rw [hc] at h5
    simp at h5
  ·exact Z6 hp.ar.own hc (by decide) e
  ·rcases hp.ar.map with ⟨e2,_⟩ | ⟨mb,M,e2,ho,_⟩
   ·rw [e2] at e;exact absurd e (by simp [U0])
   ·rw [e2] at e
    simp [U0] at e
    subst e
    obtain ⟨es,cl,h5,_⟩:=ho
    rw [hc] at h5
    simp at h5
def qm6 (w:World) (sb:Nat) (nv:Value) (xs:PX) (T A:List Nd) (f:Nd) (e:Ending) (w':World):Prop :=
 ∃ k wd i pa pn pc,e=.returned (.agg #[.int .i64 k,.string wd,.int .i64 i,.slice pa pn pc])/\∃ T' A',V8 T T' (J5 true f)/\V8 A A' (J5 false f)/\FT w' (fun q=>w.heap.size<=q) A' [.int .i64 k,.string wd,.int .i64 i,.slice pa pn pc] f/\zi4 w sb nv xs T' A' w'
def jm6 (sb:Nat) (nv:Value) (f:Nd):Prop:=∀ (w:World) (xs:PX) (T A:List Nd) (D:Nat->Prop) (k':Int) (wd':ByteArray) (v':Int) (pa':Option Addr) (pn' pc':Nat),PN w D [.int .i64 k',.string wd',.int .i64 v',.slice pa' pn' pc'] f->(∀ k,D k->k < w.heap.size)->(∀ k,D k->¬PF sb xs k)->PSt w sb nv xs T A->T.length+(J5 true f).length<=9000000->A.length+(J5 false f).length<=9000000 ->
 Calls Tryz.prog 73 #[.pointer (some ⟨sb,1,none⟩),.agg #[.int .i64 k',.string wd',.int .i64 v',.slice pa' pn' pc']] w (qm6 w sb nv xs T A f)
theorem qW8 {w V w2 W:World} {sb:Nat} {nv:Value} {xs:PX} {T' A':List Nd} {ts2 tm2 at2 am2:Value} (hxV:q9 (fun _=>False) w V) (hVs:w.heap.size+2<=V.heap.size) (hlt:∀ k,PF sb xs k->k < w.heap.size) (k1:PSt w2 sb nv { xs with ts:=ts2,tm:=tm2,at_:=at2,am:=am2 } T' A') (k2:q9 (PF sb xs) V w2) (k3:∀ k,PF sb { xs with ts:=ts2,tm:=tm2,at_:=at2,am:=am2 } k->PF sb xs k\/V.heap.size<=k) (hW:q9 (fun k=>k=w.heap.size+1) w2 W):zi4 w sb nv xs T' A' W:=by
 refine ⟨ts2,tm2,at2,am2,k1.ext hW (fun k hk e=>?_),((hxV.mono (fun _ _ f=>f.elim)).trans k2).trans' hW (fun k hk e=>by omega),fun k hk=>(k3 k hk).imp id (fun e=>by omega)⟩
 rcases k3 k hk with h | h
 ·have:=hlt k h;omega
 ·omega
theorem qB0 {T:List Nd} {word:ByteArray} {a b:Nd} {r:List Nd} (ha:Y8 a) (hb:Y8 b) (hr:r=[]\/∃ v,r=[.mk 5 ByteArray.empty v []] /\ -1000<=v/\v<=1000):V8 T (addTs T [a,b]) (J5 true (.mk 2 word 0 (a :: b :: r)))/\(Q8 true [a,b]).length<=(J5 true (.mk 2 word 0 (a :: b :: r))).length/\J5 false (.mk 2 word 0 (a :: b :: r))=[.mk 2 word 0 (a :: b :: r)]:=by
 have hes:∀ p∈[a,b],Y8 p:=by
  intro p hp
  simp at hp
  rcases hp with rfl | rfl
  ·exact ha
  ·exact hb
 obtain ⟨xz,hadd,h2,h3⟩:=zf0 hes T
 have e:J5 true (.mk 2 word 0 (a :: b :: r))=Q8 true [a,b]:=by
  simp only [J5,Q8]
  rw [if_neg (by simp [U9])]
  rcases hr with rfl | ⟨v,rfl,_⟩ <;> simp [Q8,J5,U9]
 refine ⟨⟨hadd.pre,fun y=>by rw [hadd.mem,h2,e],by rw [e];have:=hadd.len;omega,hadd.nd⟩,by rw [e];exact Nat.le_refl _,?_⟩
 simp only [J5,Q8]
 rw [if_pos (by simp [U9]),y8 ha,y8 hb]
 rcases hr with rfl | ⟨v,rfl,_⟩ <;> simp [Q8,J5,U9]
theorem qB1 (A:List Nd) (x:Nd):V8 A (putN A x) [x]:=⟨zz3,fun y=>by rw [zg3];simp,by have:=zK9 (T:=A) (x:=x);simp;omega,zj0⟩
set_option maxRecDepth 100000 in
set_option maxHeartbeats 1000000 in
theorem qu5 {w:World} {sb:Nat} {nv:Value} {xs:PX} {T A:List Nd} {word:ByteArray} {a b:Nd} {r:List Nd} {pa:Option Addr} {pn pc:Nat} {D:Nat->Prop} (hx:zq4 (.mk 2 word 0 (a :: b :: r))) (ha:Y8 a) (hb:Y8 b) (hr:r=[]\/∃ v,r=[.mk 5 ByteArray.empty v []] /\ -1000<=v/\v<=1000) (hpn:PN w D [.int .i64 2,.string word,.int .i64 0,.slice pa pn pc] (.mk 2 word 0 (a :: b :: r))) (hDl:∀ k,D k->k < w.heap.size) (hDT:∀ k,D k->¬PF sb xs k) (h:PSt w sb nv xs T A) (hl1:T.length+(J5 true (.mk 2 word 0 (a :: b :: r))).length<=9000000) (hl2:A.length+(J5 false (.mk 2 word 0 (a :: b :: r))).length<=9000000) :
  Calls Tryz.prog 73 #[.pointer (some ⟨sb,1,none⟩),.agg #[.int .i64 2,.string word,.int .i64 0,.slice pa pn pc]] w (qm6 w sb nv xs T A (.mk 2 word 0 (a :: b :: r))):=by
 obtain ⟨had,hsl,hsa⟩:=qB0 (T:=T) (word:=word) ha hb hr
 have hr1:r.length<=1:=by
  rcases hr with rfl | ⟨v,rfl,_⟩ <;> simp
 obtain ⟨V,hV⟩:∃ V,(w.alloc (.cells #[.int .i64 2,.string word,.int .i64 0,.slice pa pn pc] 115)).alloc (.cells #[.int .i64 0,.string ⟨#[]⟩,.int .i64 0,.slice none 0 0] 112)=V:=⟨_,rfl⟩
 have hxV:q9 (fun _=>False) w V:=by rw [<- hV];exact ((q9.refl _ w).alloc _).alloc _
 have kR:V.heap[w.heap.size+1]?=some (.cells #[.int .i64 0,.string ⟨#[]⟩,.int .i64 0,.slice none 0 0] 112):=by rw [<- hV];exact heap_alloc2_new w _ _
 have hVs:V.heap.size=w.heap.size+2:=by rw [<- hV];simp
 have hlt:=h.lt
 have hc:Calls Tryz.prog 111 #[.pointer (some ⟨sb,1,none⟩),.agg #[.int .i64 2,.string word,.int .i64 0,.slice pa pn pc]] V fun e w'=>e=.returned (.int .i64 (idx (putN A (.mk 2 word 0 (a :: b :: r))) (.mk 2 word 0 (a :: b :: r)):Nat))/\zi4 V sb nv xs (addTs T [a,b]) (putN A (.mk 2 word 0 (a :: b :: r))) w':=by
  have hpV:=hpn.ext hxV (fun _ _ _ f=>f)
  cases hpV with
  | @mk _ _ _ _ _ kids how hkl hkn hD hk =>
   obtain ⟨a',cap,hv,h1,h2,hkid⟩:=zF7 how hkl hkn hD hk
   cases hv
   obtain ⟨g,_,_,_,_,_,_,rfl,_⟩:=hkid 0 a rfl
   exact qL5 (h.ext hxV (fun _ _ f=>f)) hx hr1 ha hb (by omega) (by rw [hsa] at hl2;simp at hl2;omega) h1 h2 hkid (fun k hd=>by have:=hDl k hd;omega) hDT
 have HC:=q8 hc
 have HV:=q8 hV
 have HXV:=q8 hxV
 have KR:=q8 kR
 have HLT:=q8 hlt
 have HAD:=q8 had
 have HSA:=q8 hsa
 clear hc hV hxV kR hlt had hsa hpn h hDl hDT hl1 hl2 hx ha hb hr hsl
 go_enter Tryz.func73,Tryz.ntmps73
 go_wp2_with fail
 rw [HV.out]
 refine HC.out.mono ?_
 rintro e w2 ⟨rfl,hap⟩
 obtain ⟨i,hi⟩:∃ i,idx (putN A (.mk 2 word 0 (a :: b :: r))) (.mk 2 word 0 (a :: b :: r))=i:=⟨_,rfl⟩
 have HI:=q8 hi
 rw [hi]
 clear hi
 obtain ⟨ts2,tm2,at2,am2,k1,k2,k3⟩:=hap
 have kr2:w2.heap[w.heap.size+1]?=some (.cells #[.int .i64 0,.string ⟨#[]⟩,.int .i64 0,.slice none 0 0] 112):=(k2.block _ (z8 KR.out) (fun hq=>by have:=HLT.out _ hq;omega)).trans KR.out
 have r0:=z6 kr2 0
 have r1:=z6 kr2 1
 have r2:=z6 kr2 2
 have r3:=z6 kr2 3
 have f0:=Q0 kr2 0
 have f1:=Q0 kr2 1
 have f2:=Q0 kr2 2
 have f3:=Q0 kr2 3
 have hlr:=z8 kr2
 have K1:=q8 k1
 have K2:=q8 k2
 have K3:=q8 k3
 clear k1 k2 k3 kr2
 go_wp2_with fail
 refine bodyPost_ret (v:=.agg #[.int .i64 2,.string ⟨#[]⟩,.int .i64 i,.slice none 0 0]) (by simp [results,Tryz.results73,go_sem,r0,r1,r2,r3]) rfl ?_
 refine ⟨2,⟨#[]⟩,i,none,0,0,rfl,_,_,HAD.out,(qB1 A _).cast HSA.out.symm,by rw [<- HI.out];exact .atom (zg3.2 (.inr rfl)),?_⟩
 exact qW8 HXV.out (by omega) HLT.out K1.out K2.out K3.out ((((((q9.refl (fun k=>k=w.heap.size+1) w2).setCell (p:=⟨w.heap.size+1,0,none⟩) (fun _=>rfl) _).setCell (p:=⟨w.heap.size+1,1,none⟩) (fun _=>rfl) _).setCell (p:=⟨w.heap.size+1,2,none⟩) (fun _=>rfl) _).setCell (p:=⟨w.heap.size+1,3,none⟩) (fun _=>rfl) _))
end Go.Proofs.YtegbdaffhpiacaaGreatDoor
