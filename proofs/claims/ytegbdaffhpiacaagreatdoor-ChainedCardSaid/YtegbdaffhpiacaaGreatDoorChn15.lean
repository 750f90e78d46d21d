/- The program's Tidy; The program's names: Declare; The document's own answer: Assert. -/
import Derived.Test.YtegbdaffhpiacaaGreatDoorChn14
import Derived.Test.YtegbdaffhpiacaaGreatDoorChn10
import Derived.Test.YtegbdaffhpiacaaGreatDoorChn03
import Derived.Test.YtegbdaffhpiacaaGreatDoorChn12
import Derived.Deep.AppendLies
import Derived.Deep.RegionLaw
namespace Go.Proofs.YtegbdaffhpiacaaGreatDoor
open Go.RowKit Ar
theorem whole_no {N:List Nm} {l:List UInt8} {e:Int} {p:Nat} (h:rdWhole N l=.no e p):e ≠ 0:=by
 have hg:=form_gd N (toks l).length 0 (toks l) (go_wf l 0 []) (Nat.le_refl _)
 unfold rdWhole at h
 split at h
 ·rename_i e1 p1 hr
  simp at h
  obtain ⟨rfl,rfl⟩:=h
  exact hg.1 _ _ hr
 ·rename_i nd hr
  exact absurd (hg.2 _ _ hr).1 (by simp [TW])
 ·split at h
  ·simp at h
  ·simp at h
   obtain ⟨rfl,rfl⟩:=h
   decide
theorem whole_ok {N:List Nm} {s:ByteArray} {nd:Nd} {ts:List Tk} (hs:s.size<=600) (h:rdWhole N s.toList=.ok nd ts):NOk nd/\(formOf nd).length<=1000000:=by
 unfold rdWhole at h
 split at h
 ·simp at h
 ·simp at h
 ·rename_i nd' t us hr
  split at h
  ·simp at h
   obtain ⟨rfl,_⟩:=h
   have h1:=form_fits N _ _ _ _ _ (go_short s.toList 600 0 [] (by rw [len_toList];simp;omega) (by omega)) hr
   have h2:=toks_len s.toList
   rw [len_toList] at h2
   have h3:=h1.1
   refine ⟨form_oks N _ _ _ _ _ hr,?_⟩
   have h4:(tkGo 0 [] s.toList).length=(toks s.toList).length:=rfl
   omega
  ·simp at h
structure PX where
 ts:Value
 tm:Value
 at_:Value
 am:Value
 fs:Value
 ks:Value
 vd:Value
 ml:Value
structure PS (w:World) (sb:Nat) (N:List Nm) (nv:Value) (xs:PX):Prop where
 blk:w.heap[sb]?=some (.cells #[nv,xs.ts,xs.tm,xs.at_,xs.am,xs.fs,xs.ks,xs.vd,xs.ml] 98)
 own:w.ownsRow 0 142 2 nv N.length (fnCells N)
 sep:∀ g,nv.ownBlock=some g->¬g=sb
 few:N.length<=20
 ok:∀ x∈N,0<=x.ar/\x.ar<=3
theorem PS.ext {S:Nat->Prop} {w w':World} {sb:Nat} {N:List Nm} {nv:Value} {xs:PX} (h:PS w sb N nv xs) (hx:Ext S w w') (h1:¬S sb) (h2:∀ g,nv.ownBlock=some g->¬S g):PS w' sb N nv xs :=
 ⟨(hx.block _ (blt h.blk) h1).trans h.blk,own_ext h.own hx h2,h.sep,h.few,h.ok⟩
theorem PS.tab {w:World} {sb:Nat} {N:List Nm} {nv:Value} {xs:PX} (h:PS w sb N nv xs):PTab w sb nv N :=
 ⟨h.few,h.ok,cob h.blk 0,blt h.blk,h.own⟩
def PDecl (w:World) (sb:Nat) (N:List Nm) (nv:Value) (xs:PX) (F:Int) (s:ByteArray) (a:Int) (e:Ending) (w':World):Prop :=
 e=.returned (.int .i64 (declCode N s.toList a))/\Ext (fun k=>k=sb\/nv.ownBlock=some k) w w'/\∃ nv',PS w' sb (declNames N F s a) nv' xs/\(∀ k,nv'.ownBlock=some k->nv.ownBlock=some k\/w.heap.size<=k)
theorem pdecl_same {w w':World} {sb:Nat} {N:List Nm} {nv:Value} {xs:PX} {F:Int} {s:ByteArray} {a c:Int} (h:PS w sb N nv xs) (hx:Ext (fun _=>False) w w') (hc:declCode N s.toList a=c) (h0:¬c=0):PDecl w sb N nv xs F s a (.returned (.int .i64 c)) w':=by
 refine ⟨by rw [hc],hx.mono (fun _ _ f=>f.elim),nv,?_,fun k hk=>Or.inl hk⟩
 rw [declNames,if_neg (by rw [hc];exact h0)]
 exact h.ext hx (fun f=>f) (fun _ _ f=>f)
theorem pdecl_new {w w0 w1 W:World} {sb g cap':Nat} {N:List Nm} {nv:Value} {xs:PX} {F:Int} {s:ByteArray} {a:Int} (h:PS w sb N nv xs) (hc:declCode N s.toList a=0) (ha0:0<=a) (ha3:a<=3) (hfew:N.length < 20)
  (h0:Ext (fun _=>False) w w0) (hgrow:w0.grownBy w1 nv.ownBlock) (hown1:w1.ownsRow 0 142 2 (.slice (some ⟨g,0,none⟩) (N.length+1) cap') (N.length+1) (fnCells N++[.string s,.int .i64 a]))
  (hat:nv.ownBlock=some g\/w.heap.size<=g) (hW:Ext (· = sb) w1 W) (kW:W.heap[sb]?=some (.cells #[.slice (some ⟨g,0,none⟩) (N.length+1) cap',xs.ts,xs.tm,xs.at_,xs.am,xs.fs,xs.ks,xs.vd,xs.ml] 98)) :
  PDecl w sb N nv xs F s a (.returned (.int .i64 0)) W:=by
 have hsb:=blt h.blk
 have hgs:¬g=sb:=by
  rcases hat with e | e
  ·exact h.sep g e
  ·omega
 have h1:Ext (fun k=>nv.ownBlock=some k) w w1:=(h0.mono (fun _ _ f=>f.elim)).grown hgrow (fun k hk _=>hk)
 refine ⟨by rw [hc],?_,.slice (some ⟨g,0,none⟩) (N.length+1) cap',?_,?_⟩
 ·exact (h1.mono (fun k _ hk=>Or.inr hk)).trans' hW (fun i _ e=>Or.inl e)
 ·rw [declNames,if_pos hc]
  refine ⟨kW,?_,?_,?_,?_⟩
  ·rw [fnCells_snoc,List.length_append]
   exact own_ext hown1 hW (fun k hk e=>by simp [Value.ownBlock] at hk;omega)
  ·intro k hk
   simp [Value.ownBlock] at hk
   omega
  ·simp;omega
  ·intro x hx
   rcases List.mem_append.1 hx with hx | hx
   ·exact h.ok x hx
   ·simp at hx;subst hx;exact ⟨ha0,ha3⟩
 ·intro k hk
  simp [Value.ownBlock] at hk
  subst hk
  exact hat
set_option maxHeartbeats 400000 in
theorem clone_any (s:ByteArray) (w:World) (hs:s.size<=8) :
  Calls Tryz.prog 70 #[.string s] w fun e w'=>e=.returned (.string s)/\Ext (fun _=>False) w w':=by
 have hc:=Tryz.stringslite_Clone s w (by omega)
 have HC:=hide hc
 clear hc
 go_enter Tryz.func70,Tryz.ntmps70
 go_wp2_with fail
 refine HC.out.mono ?_
 rintro e w1 ⟨rfl,hb⟩
 have HX:=hide ((Ext.refl (fun _=>False) w).below hb)
 clear hb
 go_wp2_with fail
 go_ret
 exact ⟨rfl,HX.out⟩
theorem info131:(Tryz.prog.info? 142).map (fun i=>(i.zero,i.size,i.bytes))=some (some (.agg #[.string ByteArray.empty,.int .i64 0]),2,24):=by kernel_rfl
set_option maxRecDepth 100000 in
set_option maxHeartbeats 400000 in
theorem pt_declare {w:World} {sb:Nat} {N:List Nm} {nv:Value} {xs:PX} (F:Int) (s:ByteArray) (a:Int) (h:PS w sb N nv xs) (hs:s.size<=maxLen) :
  Calls Tryz.prog 46 #[.pointer (some ⟨sb,0,none⟩),.string s,.int .i64 a] w (PDecl w sb N nv xs F s a):=by
 have c0:=cob h.blk 0
 have f0:=fob h.blk 0
 have hfew:=h.few
 have hsb:=blt h.blk
 have H:=hide h
 have HIS:=gIs s
 have HIS':=hide HIS
 have HWI:=hide (gWithinInt a 0 3)
 obtain ⟨ar,cap,hnv,_⟩:=own_shape2 h.own
 subst hnv
 clear h HIS
 have HX0:Hid (Ext (fun _=>False) w (w.alloc (.cells #[.string ⟨#[]⟩,.int .i64 0] 142))):=(Ext.refl _ w).alloc _
 cases hn:isName s.toList with
 | false =>
  have HC:Hid (declCode N s.toList a=3):=by show _=_;rw [declCode,if_pos hn]
  go_enter Tryz.func46,Tryz.ntmps46
  go_wp2_with (go_at_call 67;refine (HIS'.out _ hs).mono ?_;rintro e w' ⟨rfl,rfl⟩)
  go_ret
  exact pdecl_same H.out (Ext.refl _ _) HC.out (by decide)
 | true =>
  by_cases hr:a < 0\/3 < a
  ·have HC:Hid (declCode N s.toList a=4):=by show _=_;rw [declCode,if_neg (by rw [hn];decide),if_pos hr]
   have hd:decide (0<=a/\a<=3)=false:=decide_eq_false (by omega)
   go_enter Tryz.func46,Tryz.ntmps46
   go_wp2_with first
    | (go_at_call 67;refine (HIS'.out _ hs).mono ?_;rintro e w' ⟨rfl,rfl⟩)
    | (go_at_call 68;refine (HWI.out _).mono ?_;rintro en w' ⟨rfl,rfl⟩)
   go_ret
   exact pdecl_same H.out (Ext.refl _ _) HC.out (by decide)
  ·have HC0:Hid (declCode N s.toList a=if (arOf N s.toList).isSome=true then 7 else if 20<=N.length then 8 else 0):=by
    show _=_
    rw [declCode,if_neg (by rw [hn];decide),if_neg hr]
   have hd:decide (0<=a/\a<=3)=true:=decide_eq_true (by omega)
   have HNM:=hide hn
   have HF:=hide (p_find s H.out.tab.tbl H.out.own hfew hsb)
   cases ha:arOf N s.toList with
   | some b =>
    have HC:Hid (declCode N s.toList a=7):=by show _=_;rw [HC0.out,if_pos (by rw [ha];rfl)]
    have HFR:Hid (findRes N s=.tuple #[.agg #[.string s,.int .i64 b],.bool true]):=by show _=_;unfold findRes;rw [ha]
    clear ha
    go_enter Tryz.func46,Tryz.ntmps46
    go_wp2_with first
     | (go_at_call 67;refine (HIS'.out _ hs).mono ?_;rintro e w' ⟨rfl,rfl⟩)
     | (go_at_call 68;refine (HWI.out _).mono ?_;rintro en w' ⟨rfl,rfl⟩)
    have hf:=HF.out
    rw [HFR.out] at hf
    refine hf.mono ?_
    clear hf
    rintro e w1 ⟨rfl,hx1⟩
    have HX1:=hide hx1
    clear hx1
    go_wp2_with fail
    go_ret
    exact pdecl_same H.out (HX1.out.alloc _) HC.out (by decide)
   | none =>
    have HC1:Hid (declCode N s.toList a=if 20<=N.length then 8 else 0):=by show _=_;rw [HC0.out,if_neg (by rw [ha];decide)]
    have HFR:Hid (findRes N s=.tuple #[.agg #[.string ⟨#[]⟩,.int .i64 0],.bool false]):=by show _=_;unfold findRes;rw [ha]
    clear ha
    by_cases hfull:20<=N.length
    ·have HC:Hid (declCode N s.toList a=8):=by show _=_;rw [HC1.out,if_pos hfull]
     go_enter Tryz.func46,Tryz.ntmps46
     go_wp2_with first
      | (go_at_call 67;refine (HIS'.out _ hs).mono ?_;rintro e w' ⟨rfl,rfl⟩)
      | (go_at_call 68;refine (HWI.out _).mono ?_;rintro en w' ⟨rfl,rfl⟩)
     have hf:=HF.out
     rw [HFR.out] at hf
     refine hf.mono ?_
     clear hf
     rintro e w1 ⟨rfl,hx1⟩
     have c1:=(hx1.cell (p:=⟨sb,0,none⟩) hsb (fun f=>f)).trans c0
     have hl1:sb < w1.heap.size:=Nat.lt_of_lt_of_le hsb hx1.size
     have n1:¬sb=w1.heap.size:=by omega
     have HX1:=hide hx1
     clear hx1
     go_wp2_with fail
     go_ret
     exact pdecl_same H.out (HX1.out.alloc _) HC.out (by decide)
    ·have HC:Hid (declCode N s.toList a=0):=by show _=_;rw [HC1.out,if_neg hfull]
     obtain ⟨i0,hi,hz0,hz1,hz2⟩:=info_parts info131
     have HI:Hid (Tryz.prog.info? 142=some i0/\i0.zero=some (.agg #[.string ByteArray.empty,.int .i64 0])/\i0.size=2/\i0.bytes=24):=⟨hi,hz0,hz1,hz2⟩
     clear hi hz0 hz1 hz2
     go_enter Tryz.func46,Tryz.ntmps46
     go_wp2_with first
      | (go_at_call 67;refine (HIS'.out _ hs).mono ?_;rintro e w' ⟨rfl,rfl⟩)
      | (go_at_call 68;refine (HWI.out _).mono ?_;rintro en w' ⟨rfl,rfl⟩)
     have hf:=HF.out
     rw [HFR.out] at hf
     refine hf.mono ?_
     clear hf
     rintro e w1 ⟨rfl,hx1⟩
     have c1:=(hx1.cell (p:=⟨sb,0,none⟩) hsb (fun f=>f)).trans c0
     have hl1:sb < w1.heap.size:=Nat.lt_of_lt_of_le hsb hx1.size
     have n1:¬sb=w1.heap.size:=by omega
     have HX1:=hide hx1
     clear hx1
     go_wp2_with fail
     obtain ⟨W,hW⟩:∃ W,w1.alloc (.cells #[.string ⟨#[]⟩,.int .i64 0] 142)=W:=⟨_,rfl⟩
     have hxW:Ext (fun _=>False) w W:=by rw [<- hW];exact HX1.out.alloc _
     rw [hW]
     clear hW c0 c1 f0 n1
     have HSZ:Hid (s.size<=8):=by
      have h9:=name_parts s
      rw [HNM.out] at h9
      simp at h9
      show _<=_
      omega
     have kbW:=(hxW.block _ hsb (fun f=>f)).trans H.out.blk
     have c0:=cob kbW 0
     have f0:=fob kbW 0
     have HXW:=hide hxW
     have KBW:=hide kbW
     clear hxW kbW
     obtain ⟨hi,hz0,hz1,hz2⟩:=HI.out
     go_region_law (first | (refine step_append_lies _ (by rfl) _ _ _ (by rfl) 0 142 i0 _ 2 24 Tryz.underlying76 hi hz0 hz1 hz2 rfl (by omega) (.slice ar N.length cap) N.length (fnCells N) (by rfl) ((own_ext H.out.own HX2.out (fun _ _ f=>f)).alloc _) ⟨w2.heap.size,0,none⟩ 1 1 [.string s,.int .i64 a] (by rfl) (by rfl) (World.news_of_block (cs:=#[.string s,.int .i64 a]) (t:=142) (fr:=(0,0)) (heap_alloc_new w2 _)) (by simp [Value.oneCell']) (by omega) (by unfold maxLen;omega) (by omega) (Nat.zero_le _) (w2.heap.size+1) (by simp) ?_;intro g cap' w3 hown3 hgrow hat hlt3;have kb3:w3.heap[sb]?=some (.cells #[.slice ar N.length cap,xs.ts,xs.tm,xs.at_,xs.am,xs.fs,xs.ks,xs.vd,xs.ml] 98):=(hgrow.block sb (by simp;omega) (fun e=>H.out.sep sb e.symm rfl)).trans ((Below.heap_alloc w2 _ sb hl2).trans KB2.out);have d0:=cob kb3 0;have d0f:=fob kb3 0) | (go_simp;go_wp2_with (go_at_call 70;refine (clone_any s _ HSZ.out).mono ?_;rintro e w2 ⟨rfl,hx2⟩;have HX2:Hid (Ext (fun _=>False) w w2):=(HXW.out.drew).trans hx2;have kb2:=(HX2.out.block _ hsb (fun f=>f)).trans H.out.blk;have c2:=cob kb2 0;have KB2:=hide kb2;have hl2:=blt kb2;clear hx2 kb2)))
     all_goals
      go_wp2_with fail
      go_ret
      have hW:Ext (· = sb) w3 (w3.setCell ⟨sb,0,none⟩ (.slice (some ⟨g,0,none⟩) (N.length+1) cap')):=(Ext.refl (· = sb) w3).setCell (p:=⟨sb,0,none⟩) (fun _=>rfl) _
      exact pdecl_new H.out HC.out (by omega) (by omega) (by omega) (w0:=w2.alloc _) (HX2.out.alloc _) hgrow hown3 (hat.imp id (fun e=>by have:=HX2.out.size;omega)) hW (bsc kb3 0 _)
def PX.fg (xs:PX):PX := { xs with vd:=.int .i64 0,ml:=.map none }
theorem two78_ext (w:World) (b i j:Nat) (u v:Value):Ext (fun k=>k=b) w ((w.setCell ⟨b,i,none⟩ u).setCell ⟨b,j,none⟩ v) :=
 ((Ext.refl (fun k=>k=b) w).setCell (p:=⟨b,i,none⟩) (fun _=>rfl) _).setCell (p:=⟨b,j,none⟩) (fun _=>rfl) _
set_option maxHeartbeats 400000 in
theorem p_forget {w:World} {sb:Nat} {nv ts tm at_ am fs ks vd ml:Value} (kb:w.heap[sb]?=some (.cells #[nv,ts,tm,at_,am,fs,ks,vd,ml] 98)) :
  Calls Tryz.prog 42 #[.pointer (some ⟨sb,0,none⟩)] w fun e w'=>e=.returned (.tuple #[])/\Ext (fun k=>k=sb) w w'/\w'.heap[sb]?=some (.cells #[nv,ts,tm,at_,am,fs,ks,.int .i64 0,.map none] 98):=by
 have c7:=cob kb 7
 have c8:=cob kb 8
 have f7:=fob kb 7
 have f8:=fob kb 8
 have KB:=hide kb
 clear kb
 go_enter Tryz.func42,Tryz.ntmps42
 go_wp2_with fail
 go_end0
 refine ⟨rfl,two78_ext _ _ _ _ _ _,?_⟩
 exact bsc (bsc KB.out 7 _) 8 _
def PDeclG (w:World) (sb:Nat) (N:List Nm) (nv:Value) (xs:PX) (F:Int) (s:ByteArray) (a:Int) (e:Ending) (w':World):Prop :=
 e=.returned (.int .i64 (declCode N s.toList a))/\Ext (fun k=>k=sb\/nv.ownBlock=some k) w w'/\∃ nv',PS w' sb (declNames N F s a) nv' (if declCode N s.toList a=0 then xs.fg else xs)/\(∀ k,nv'.ownBlock=some k->nv.ownBlock=some k\/w.heap.size<=k)
set_option maxHeartbeats 400000 in
theorem p_declareG {w:World} {sb:Nat} {N:List Nm} {nv:Value} {xs:PX} (F:Int) (s:ByteArray) (a:Int) (h:PS w sb N nv xs) (hs:s.size<=maxLen) :
  Calls Tryz.prog 20 #[.pointer (some ⟨sb,0,none⟩),.string s,.int .i64 a] w (PDeclG w sb N nv xs F s a):=by
 have c0:=cob h.blk 0
 have HC:=hide (pt_declare F s a h hs)
 clear h
 go_enter Tryz.func20,Tryz.ntmps20
 go_wp2_with fail
 refine HC.out.mono ?_
 rintro e w1 ⟨rfl,h1,nv',h2,h3⟩
 have H1:=hide h1
 have H2:=hide h2
 have H3:=hide h3
 clear h1 h2 h3
 by_cases h0:declCode N s.toList a=0
 ·have H0:=hide h0
  rw [h0]
  clear h0
  go_wp2_with fail
  refine (p_forget H2.out.blk).mono ?_
  rintro e w2 ⟨rfl,hx2,kb2⟩
  have HX2:=hide hx2
  have KB2:=hide kb2
  clear hx2 kb2
  go_wp2_with fail
  go_ret
  refine ⟨by rw [H0.out];rfl,H1.out.trans (HX2.out.mono (fun _ _ e=>.inl e)),nv',?_,H3.out⟩
  rw [if_pos H0.out]
  exact ⟨KB2.out,own_ext H2.out.own HX2.out (fun g hg e=>H2.out.sep g hg e),H2.out.sep,H2.out.few,H2.out.ok⟩
 ·have he:(declCode N s.toList a == 0)=false:=by simpa using h0
  have H0:=hide h0
  clear h0
  go_wp2_with fail
  go_ret
  refine ⟨rfl,H1.out,nv',?_,H3.out⟩
  rw [if_neg H0.out]
  exact H2.out
def px0:PX:=⟨.slice none 0 0,.map none,.slice none 0 0,.map none,.slice none 0 0,.slice none 0 0,.int .i64 0,.map none⟩
set_option maxHeartbeats 400000 in
theorem p_new (w:World):Calls Tryz.prog 36 #[] w fun e w'=>e=.returned (.pointer (some ⟨w.heap.size,0,none⟩))/\Ext (fun _=>False) w w'/\PS w' w.heap.size [] (.slice none 0 0) px0/\w'.heap.size=w.heap.size+1:=by
 go_enter Tryz.func36,Tryz.ntmps36
 go_wp2_with fail
 go_ret
 refine ⟨rfl,(Ext.refl _ w).alloc _,⟨heap_alloc_new w _,World.ownsRow_nil _ _ _ _,fun g hg=>absurd hg (by simp [Value.ownBlock]),by simp,fun _ h=>absurd h (by simp)⟩,by simp⟩
theorem whole_shape {N:List Nm} (hN:FewAr N) {l:List UInt8} {nd:Nd} {ts:List Tk} (h:rdWhole N l=.ok nd ts):FmOk nd:=by
 unfold rdWhole at h
 split at h
 ·simp at h
 ·simp at h
 ·rename_i nd' t us hr
  split at h
  ·simp at h
   obtain ⟨rfl,_⟩:=h
   exact form_shape hN _ _ _ _ _ hr
  ·simp at h
def cnt (t:Bool) (Q:List Nd) (nd:Nd):Nat:=(addAll [] (subsAll t (Q++[nd]))).length
def asOut (N:List Nm) (Q:List Nd) (s:ByteArray):Int × Int × Option Nd :=
 if 600 < s.size then (0,1,none) else
  match rdWhole N s.toList with
  | .no e p=>(p,e,none)
  | .ok nd _=>if 20<=Q.length then (0,8,none) else if 12 < cnt true Q nd then (0,9,none) else if 16 < cnt false Q nd then (0,10,none) else (0,0,some nd)
def optL (o:Option Nd) (F:Int):List (Nd × Int):=match o with
 | none=>[]
 | some nd=>[(nd,F)]
end Go.Proofs.YtegbdaffhpiacaaGreatDoor
