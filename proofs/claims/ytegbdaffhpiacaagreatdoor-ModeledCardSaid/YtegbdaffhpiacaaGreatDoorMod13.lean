/- A part of the proof. -/
import Derived.Test.YtegbdaffhpiacaaGreatDoorMod12
import Derived.Deep.AppendLies
import Derived.Deep.RegionLaw
set_option maxRecDepth 100000
set_option maxHeartbeats 400000
namespace Go.Proofs.YtegbdaffhpiacaaGreatDoor
open Tryz
open Go.RowKit Ar
theorem qZ3{N:List Nm}{l:List UInt8}{e:Int}{p:Nat}(h:W7 N l=.no e p):e≠0:=by
 have hg:=jh3 N (toks l).length 0 (toks l) (qk6 l 0 []) (Nat.le_refl _);unfold W7 at h;split at h
 ·rename_i e1 p1 hr;simp at h;obtain⟨rfl,rfl⟩:=h;exact hg.1 _ _ hr
 ·rename_i nd hr;exact absurd (hg.2 _ _ hr).1 (by simp[TW])
 ·split at h
  ·simp at h
  ·simp at h;obtain⟨rfl,rfl⟩:=h
   decide
theorem qZ4{N:List Nm}{s:ByteArray}{nd:Nd}{ts:List Tk}(hs:s.size<=600)(h:W7 N s.toList=.ok nd ts):NOk nd/\(j9 nd).length<=1000000:=by
 unfold W7 at h;split at h
 ·simp at h
 ·simp at h
 ·rename_i nd' t us hr;split at h
  ·simp at h;obtain⟨rfl,_⟩:=h;have h1:=zV8 N _ _ _ _ _ (zO4 s.toList 600 0 [] (by rw[Z4];simp;omega) (by omega)) hr;have h2:=zO2 s.toList;rw[Z4] at h2;have h3:=h1.1;refine⟨qV0 N _ _ _ _ _ hr,?_⟩;have h4:(zc6 0 [] s.toList).length=(toks s.toList).length:=rfl;omega
  ·simp at h
structure PX where
 ts:Value
 tm:Value
 at_:Value
 am:Value
 fs:Value
 ks:Value
 vd:Value
 ml:Value
structure PS(w:World)(sb:Nat)(N:List Nm)(nv:Value)(xs:PX):Prop where
 blk:w.heap[sb]?=some (.cells #[nv,xs.ts,xs.tm,xs.at_,xs.am,xs.fs,xs.ks,xs.vd,xs.ml] 98)
 own:w.ownsRow 0 142 2 nv N.length (X2 N)
 sep:∀ g,nv.ownBlock=some g->¬g=sb
 few:N.length<=20
 ok:∀ x∈N,0<=x.ar/\x.ar<=3
theorem PS.ext{S:Nat->Prop}{w w':World}{sb:Nat}{N:List Nm}{nv:Value}{xs:PX}(h:PS w sb N nv xs)(hx:q9 S w w')(h1:¬S sb)(h2:∀ g,nv.ownBlock=some g->¬S g):PS w' sb N nv xs :=
 ⟨(hx.block _ (z8 h.blk) h1).trans h.blk,z7 h.own hx h2,h.sep,h.few,h.ok⟩
theorem PS.tab{w:World}{sb:Nat}{N:List Nm}{nv:Value}{xs:PX}(h:PS w sb N nv xs):qN9 w sb nv N :=
 ⟨h.few,h.ok,z6 h.blk 0,z8 h.blk,h.own⟩
def qZ5(w:World)(sb:Nat)(N:List Nm)(nv:Value)(xs:PX)(F:Int)(s:ByteArray)(a:Int)(e:Ending)(w':World):Prop :=
 e=.returned (.int .i64 (K8 N s.toList a))/\q9 (fun k=>k=sb\/nv.ownBlock=some k) w w'/\∃ nv',PS w' sb (za7 N F s a) nv' xs/\(∀ k,nv'.ownBlock=some k->nv.ownBlock=some k\/w.heap.size<=k)
theorem zq4{w w':World}{sb:Nat}{N:List Nm}{nv:Value}{xs:PX}{F:Int}{s:ByteArray}{a c:Int}(h:PS w sb N nv xs)(hx:q9 (fun _=>False) w w')(hc:K8 N s.toList a=c)(h0:¬c=0):qZ5 w sb N nv xs F s a (.returned (.int .i64 c)) w':=by refine⟨by rw[hc],hx.mono (fun _ _ f=>f.elim),nv,?_,fun k hk=>Or.inl hk⟩;rw[za7,if_neg (by rw[hc];exact h0)];exact h.ext hx (fun f=>f) (fun _ _ f=>f)
theorem qN3{w w0 w1 W:World}{sb g cap':Nat}{N:List Nm}{nv:Value}{xs:PX}{F:Int}{s:ByteArray}{a:Int}(h:PS w sb N nv xs)(hc:K8 N s.toList a=0)(ha0:0<=a)(ha3:a<=3)(hfew:N.length<20)
  (h0:q9 (fun _=>False) w w0) (hgrow:w0.grownBy w1 nv.ownBlock) (hown1:w1.ownsRow 0 142 2 (.slice (some ⟨g,0,none⟩) (N.length+1) cap') (N.length+1) (X2 N++[.string s,.int .i64 a]))
  (hat:nv.ownBlock=some g\/w.heap.size<=g) (hW:q9 (· = sb) w1 W) (kW:W.heap[sb]?=some (.cells #[.slice (some ⟨g,0,none⟩) (N.length+1) cap',xs.ts,xs.tm,xs.at_,xs.am,xs.fs,xs.ks,xs.vd,xs.ml] 98)):
  qZ5 w sb N nv xs F s a (.returned (.int .i64 0)) W:=by
 have hsb:=z8 h.blk;have hgs:¬g=sb:=by
  rcases hat with e|e
  ·exact h.sep g e
  ·omega
 have h1:q9 (fun k=>nv.ownBlock=some k) w w1:=(h0.mono (fun _ _ f=>f.elim)).grown hgrow (fun k hk _=>hk);refine⟨by rw[hc],?_,.slice (some ⟨g,0,none⟩) (N.length+1) cap',?_,?_⟩
 ·exact(h1.mono (fun k _ hk=>Or.inr hk)).trans' hW (fun i _ e=>Or.inl e)
 ·rw[za7,if_pos hc];refine⟨kW,?_,?_,?_,?_⟩
  ·rw[zY5,List.length_append];exact z7 hown1 hW (fun k hk e=>by simp[Value.ownBlock] at hk;omega)
  ·intro k hk;simp[Value.ownBlock] at hk;omega
  ·simp;omega
  ·intro x hx;rcases List.mem_append.1 hx with hx|hx
   ·exact h.ok x hx
   ·simp at hx;subst hx;exact⟨ha0,ha3⟩
 ·intro k hk;simp[Value.ownBlock] at hk;subst hk;exact hat
theorem qN4(s:ByteArray)(w:World)(hs:s.size<=8):
  Calls prog 70 #[.string s] w fun e w'=>e=.returned (.string s)/\q9 (fun _=>False) w w':=by
 have hc:=Tryz.stringslite_Clone s w (by omega);have HC:=q8 hc;clear hc;go_enter func70,ntmps70;go_wp2_with fail;refine HC.out.mono ?_;rintro e w1 ⟨rfl,hb⟩;have HX:=q8 ((q9.refl (fun _=>False) w).below hb);clear hb;go_wp2_with fail;go_ret;exact⟨rfl,HX.out⟩
theorem qC2:(prog.info? 142).map (fun i=>(i.zero,i.size,i.bytes))=some (some (.agg #[.string ByteArray.empty,.int .i64 0]),2,24):=by kernel_rfl
theorem qw5{w:World}{sb:Nat}{N:List Nm}{nv:Value}{xs:PX}(F:Int)(s:ByteArray)(a:Int)(h:PS w sb N nv xs)(hs:s.size<=maxLen):
  Calls prog 46 #[.pointer (some ⟨sb,0,none⟩),.string s,.int .i64 a] w (qZ5 w sb N nv xs F s a):=by
 have c0:=z6 h.blk 0;have f0:=Q8 h.blk 0;have hfew:=h.few;have hsb:=z8 h.blk;have H:=q8 h;have HIS:=gIs s;have HIS':=q8 HIS;have HWI:=q8 (zp1 a 0 3);obtain⟨ar,cap,hnv,_⟩:=zJ8 h.own;subst hnv;clear h HIS;have HX0:Hid (q9 (fun _=>False) w (w.alloc (.cells #[.string ⟨#[]⟩,.int .i64 0] 142))):=(q9.refl _ w).alloc _;cases hn:X6 s.toList with
 | false=>
  have HC:Hid (K8 N s.toList a=3):=by show _=_;rw[K8,if_pos hn]
  go_enter func46,ntmps46;go_wp2_with (go_at_call 67;refine(HIS'.out _ hs).mono ?_;rintro e w' ⟨rfl,rfl⟩);go_ret;exact zq4 H.out (q9.refl _ _) HC.out (by decide)
 | true=>
  by_cases hr:a<0\/3<a
  ·have HC:Hid (K8 N s.toList a=4):=by show _=_;rw[K8,if_neg (by rw[hn];decide),if_pos hr]
   have hd:decide (0<=a/\a<=3)=false:=decide_eq_false (by omega);go_enter func46,ntmps46;go_wp2_with first
    | (go_at_call 67;refine(HIS'.out _ hs).mono ?_;rintro e w' ⟨rfl,rfl⟩)
    | (go_at_call 68;refine(HWI.out _).mono ?_;rintro en w' ⟨rfl,rfl⟩)
   go_ret;exact zq4 H.out (q9.refl _ _) HC.out (by decide)
  ·have HC0:Hid (K8 N s.toList a=if (za8 N s.toList).isSome=true then 7 else if 20<=N.length then 8 else 0):=by
    show _=_;rw[K8,if_neg (by rw[hn];decide),if_neg hr]
   have hd:decide (0<=a/\a<=3)=true:=decide_eq_true (by omega);have HNM:=q8 hn;have HF:=q8 (qo3 s H.out.tab.tbl H.out.own hfew hsb);cases ha:za8 N s.toList with
   | some b=>
    have HC:Hid (K8 N s.toList a=7):=by show _=_;rw[HC0.out,if_pos (by rw[ha];rfl)]
    have HFR:Hid (zd0 N s=.tuple #[.agg #[.string s,.int .i64 b],.bool true]):=by show _=_;unfold zd0;rw[ha]
    clear ha;go_enter func46,ntmps46;go_wp2_with first
     | (go_at_call 67;refine(HIS'.out _ hs).mono ?_;rintro e w' ⟨rfl,rfl⟩)
     | (go_at_call 68;refine(HWI.out _).mono ?_;rintro en w' ⟨rfl,rfl⟩)
    have hf:=HF.out;rw[HFR.out] at hf;refine hf.mono ?_;clear hf;rintro e w1 ⟨rfl,hx1⟩;have HX1:=q8 hx1;clear hx1;go_wp2_with fail;go_ret;exact zq4 H.out (HX1.out.alloc _) HC.out (by decide)
   | none=>
    have HC1:Hid (K8 N s.toList a=if 20<=N.length then 8 else 0):=by show _=_;rw[HC0.out,if_neg (by rw[ha];decide)]
    have HFR:Hid (zd0 N s=.tuple #[.agg #[.string ⟨#[]⟩,.int .i64 0],.bool false]):=by show _=_;unfold zd0;rw[ha]
    clear ha;by_cases hfull:20<=N.length
    ·have HC:Hid (K8 N s.toList a=8):=by show _=_;rw[HC1.out,if_pos hfull]
     go_enter func46,ntmps46;go_wp2_with first
      | (go_at_call 67;refine(HIS'.out _ hs).mono ?_;rintro e w' ⟨rfl,rfl⟩)
      | (go_at_call 68;refine(HWI.out _).mono ?_;rintro en w' ⟨rfl,rfl⟩)
     have hf:=HF.out;rw[HFR.out] at hf;refine hf.mono ?_;clear hf;rintro e w1 ⟨rfl,hx1⟩;have c1:=(hx1.cell (p:=⟨sb,0,none⟩) hsb (fun f=>f)).trans c0;have hl1:sb<w1.heap.size:=Nat.lt_of_lt_of_le hsb hx1.size;have n1:¬sb=w1.heap.size:=by omega
     have HX1:=q8 hx1;clear hx1;go_wp2_with fail;go_ret;exact zq4 H.out (HX1.out.alloc _) HC.out (by decide)
    ·have HC:Hid (K8 N s.toList a=0):=by show _=_;rw[HC1.out,if_neg hfull]
     obtain⟨i0,hi,hz0,hz1,hz2⟩:=info_parts qC2;have HI:Hid (prog.info? 142=some i0/\i0.zero=some (.agg #[.string ByteArray.empty,.int .i64 0])/\i0.size=2/\i0.bytes=24):=⟨hi,hz0,hz1,hz2⟩;clear hi hz0 hz1 hz2;go_enter func46,ntmps46;go_wp2_with first
      | (go_at_call 67;refine(HIS'.out _ hs).mono ?_;rintro e w' ⟨rfl,rfl⟩)
      | (go_at_call 68;refine(HWI.out _).mono ?_;rintro en w' ⟨rfl,rfl⟩)
     have hf:=HF.out;rw[HFR.out] at hf;refine hf.mono ?_;clear hf;rintro e w1 ⟨rfl,hx1⟩;have c1:=(hx1.cell (p:=⟨sb,0,none⟩) hsb (fun f=>f)).trans c0;have hl1:sb<w1.heap.size:=Nat.lt_of_lt_of_le hsb hx1.size;have n1:¬sb=w1.heap.size:=by omega
     have HX1:=q8 hx1;clear hx1;go_wp2_with fail;obtain⟨W,hW⟩:∃ W,w1.alloc (.cells #[.string ⟨#[]⟩,.int .i64 0] 142)=W:=⟨_,rfl⟩;have hxW:q9 (fun _=>False) w W:=by rw[<- hW];exact HX1.out.alloc _
     rw[hW];clear hW c0 c1 f0 n1;have HSZ:Hid (s.size<=8):=by have h9:=zK3 s;rw[HNM.out] at h9;simp at h9;show _<=_;omega
     have kbW:=(hxW.block _ hsb (fun f=>f)).trans H.out.blk;have c0:=z6 kbW 0;have f0:=Q8 kbW 0;have HXW:=q8 hxW;have KBW:=q8 kbW;clear hxW kbW;obtain⟨hi,hz0,hz1,hz2⟩:=HI.out
     go_region_law (first|(refine step_append_lies _ (by rfl) _ _ _ (by rfl) 0 142 i0 _ 2 24 underlying76 hi hz0 hz1 hz2 rfl (by omega) (.slice ar N.length cap) N.length (X2 N) (by rfl) ((z7 H.out.own HX2.out (fun _ _ f=>f)).alloc _) ⟨w2.heap.size,0,none⟩ 1 1 [.string s,.int .i64 a] (by rfl) (by rfl) (World.news_of_block (cs:=#[.string s,.int .i64 a]) (t:=142) (fr:=(0,0)) (heap_alloc_new w2 _)) (by simp[Value.oneCell']) (by omega) (by unfold maxLen;omega) (by omega) (Nat.zero_le _) (w2.heap.size+1) (by simp) ?_;intro g cap' w3 hown3 hgrow hat hlt3;have kb3:w3.heap[sb]?=some (.cells #[.slice ar N.length cap,xs.ts,xs.tm,xs.at_,xs.am,xs.fs,xs.ks,xs.vd,xs.ml] 98):=(hgrow.block sb (by simp;omega) (fun e=>H.out.sep sb e.symm rfl)).trans ((Below.heap_alloc w2 _ sb hl2).trans KB2.out);have d0:=z6 kb3 0;have d0f:=Q8 kb3 0)|(go_simp;go_wp2_with (go_at_call 70;refine(qN4 s _ HSZ.out).mono ?_;rintro e w2 ⟨rfl,hx2⟩;have HX2:Hid (q9 (fun _=>False) w w2):=(HXW.out.drew).trans hx2;have kb2:=(HX2.out.block _ hsb (fun f=>f)).trans H.out.blk;have c2:=z6 kb2 0;have KB2:=q8 kb2;have hl2:=z8 kb2;clear hx2 kb2)))
     all_goals
      go_wp2_with fail;go_ret;have hW:q9 (· = sb) w3 (w3.setCell ⟨sb,0,none⟩ (.slice (some ⟨g,0,none⟩) (N.length+1) cap')):=(q9.refl (· = sb) w3).setCell (p:=⟨sb,0,none⟩) (fun _=>rfl) _;exact qN3 H.out HC.out (by omega) (by omega) (by omega) (w0:=w2.alloc _) (HX2.out.alloc _) hgrow hown3 (hat.imp id (fun e=>by have:=HX2.out.size;omega)) hW (Y4 kb3 0 _)
def PX.fg(xs:PX):PX := { xs with vd:=.int .i64 0,ml:=.map none }
theorem qN5(w:World)(b i j:Nat)(u v:Value):q9 (fun k=>k=b) w ((w.setCell ⟨b,i,none⟩ u).setCell ⟨b,j,none⟩ v) :=
 ((q9.refl (fun k=>k=b) w).setCell (p:=⟨b,i,none⟩) (fun _=>rfl) _).setCell (p:=⟨b,j,none⟩) (fun _=>rfl) _
theorem zR4{w:World}{sb:Nat}{nv ts tm at_ am fs ks vd ml:Value}(kb:w.heap[sb]?=some (.cells #[nv,ts,tm,at_,am,fs,ks,vd,ml] 98)):
  Calls prog 42 #[.pointer (some ⟨sb,0,none⟩)] w fun e w'=>e=.returned (.tuple #[])/\q9 (fun k=>k=sb) w w'/\w'.heap[sb]?=some (.cells #[nv,ts,tm,at_,am,fs,ks,.int .i64 0,.map none] 98):=by
 have c7:=z6 kb 7;have c8:=z6 kb 8;have f7:=Q8 kb 7;have f8:=Q8 kb 8;have KB:=q8 kb;clear kb;go_enter func42,ntmps42;go_wp2_with fail
 go_end0
 refine⟨rfl,qN5 _ _ _ _ _ _,?_⟩;exact Y4 (Y4 KB.out 7 _) 8 _
def qZ6(w:World)(sb:Nat)(N:List Nm)(nv:Value)(xs:PX)(F:Int)(s:ByteArray)(a:Int)(e:Ending)(w':World):Prop :=
 e=.returned (.int .i64 (K8 N s.toList a))/\q9 (fun k=>k=sb\/nv.ownBlock=some k) w w'/\∃ nv',PS w' sb (za7 N F s a) nv' (if K8 N s.toList a=0 then xs.fg else xs)/\(∀ k,nv'.ownBlock=some k->nv.ownBlock=some k\/w.heap.size<=k)
theorem qw6{w:World}{sb:Nat}{N:List Nm}{nv:Value}{xs:PX}(F:Int)(s:ByteArray)(a:Int)(h:PS w sb N nv xs)(hs:s.size<=maxLen):
  Calls prog 20 #[.pointer (some ⟨sb,0,none⟩),.string s,.int .i64 a] w (qZ6 w sb N nv xs F s a):=by
 have c0:=z6 h.blk 0;have HC:=q8 (qw5 F s a h hs);clear h;go_enter func20,ntmps20;go_wp2_with fail;refine HC.out.mono ?_;rintro e w1 ⟨rfl,h1,nv',h2,h3⟩;have H1:=q8 h1;have H2:=q8 h2;have H3:=q8 h3;clear h1 h2 h3;by_cases h0:K8 N s.toList a=0
 ·have H0:=q8 h0;rw[h0];clear h0;go_wp2_with fail;refine(zR4 H2.out.blk).mono ?_;rintro e w2 ⟨rfl,hx2,kb2⟩;have HX2:=q8 hx2;have KB2:=q8 kb2;clear hx2 kb2;go_wp2_with fail;go_ret;refine⟨by rw[H0.out];rfl,H1.out.trans (HX2.out.mono (fun _ _ e=>.inl e)),nv',?_,H3.out⟩;rw[if_pos H0.out];exact⟨KB2.out,z7 H2.out.own HX2.out (fun g hg e=>H2.out.sep g hg e),H2.out.sep,H2.out.few,H2.out.ok⟩
 ·have he:(K8 N s.toList a==0)=false:=by simpa using h0
  have H0:=q8 h0;clear h0;go_wp2_with fail;go_ret;refine⟨rfl,H1.out,nv',?_,H3.out⟩;rw[if_neg H0.out];exact H2.out
def px0:PX:=⟨.slice none 0 0,.map none,.slice none 0 0,.map none,.slice none 0 0,.slice none 0 0,.int .i64 0,.map none⟩
theorem ju9(w:World):Calls prog 36 #[] w fun e w'=>e=.returned (.pointer (some ⟨w.heap.size,0,none⟩))/\q9 (fun _=>False) w w'/\PS w' w.heap.size [] (.slice none 0 0) px0/\w'.heap.size=w.heap.size+1:=by go_enter func36,ntmps36;go_wp2_with fail;go_ret;refine⟨rfl,(q9.refl _ w).alloc _,⟨heap_alloc_new w _,World.ownsRow_nil _ _ _ _,fun g hg=>absurd hg (by simp[Value.ownBlock]),by simp,fun _ h=>absurd h (by simp)⟩,by simp⟩
end Go.Proofs.YtegbdaffhpiacaaGreatDoor
