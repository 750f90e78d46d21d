/- The program's reader: a name by itself; The program's reader: a row of parts, each read in its own way; Sets of marks in memory: With, Without, Of, Last. -/
import Derived.Test.YtegbdaffhpiacaaGreatDoorBck05
import Derived.Test.YtegbdaffhpiacaaGreatDoorBck03
import Derived.Test.YtegbdaffhpiacaaGreatDoorBck04
import Derived.Test.YtegbdaffhpiacaaGreatDoorBck01
namespace Go.Proofs.YtegbdaffhpiacaaGreatDoor
open Go.RowKit Ar
set_option maxRecDepth 100000 in
set_option maxHeartbeats 400000 in
theorem qk2 {w:World} {c:W9} {t:Tk} {ts:List Tk} {d pl er:Int} (h:PR w c (t :: ts) d pl er) :
    Calls Tryz.prog 191 #[.pointer (some ⟨c.rb,0,none⟩)] w (X5 w c d pl er (zn8 c.N t ts)):=by
  have F0:=zg5
  have F2:=zj2
  have hrb:=h.rbs
  have hrn:¬w.heap.size=c.rb:=by omega
  have htb:=h.tbs
  have hsb:=h.sbs
  have HNV:=q8 h.nvs
  have HX0:Hid (q9 (fun _=>False) w (w.alloc (.cells #[.int .i64 0,.string ⟨#[]⟩,.int .i64 0,.slice none 0 0] 115))):=(q9.refl _ w).alloc _
  have H0:=q8 (h.new HX0.out)
  have HOK:=q8 h.ok
  clear F0 F2
  by_cases hk:zb7 c.N t.txt.toList=0
  · have hn:X4 t.txt.toList=true:=by
      cases hq:X4 t.txt.toList with
      | true=>rfl
      | false=>rw [zb7,if_pos hq] at hk;exact absurd hk (by decide)
    obtain ⟨a,ha⟩:∃ a,za0 c.N t.txt.toList=some a:=by
      cases hq:za0 c.N t.txt.toList with
      | some a=>exact ⟨a,rfl⟩
      | none=>rw [zb7,if_neg (by rw [hn];decide),hq,if_pos (by rfl)] at hk;exact absurd hk (by decide)
    have hb:0<=a/\a<=3:=by
      unfold za0 at ha
      cases hf:c.N.find? (fun x=>x.name.toList == t.txt.toList) with
      | none=>rw [hf] at ha;exact absurd ha (by simp)
      | some x =>
        rw [hf] at ha
        simp at ha
        rw [<- ha]
        exact HOK.out x (List.mem_of_find?_eq_some hf)
    have HNE:Hid (t.txt.toList ≠ []):=by
      have:=(zS4 hn).2.2
      intro e;rw [e] at this;exact absurd this (by decide)
    have HD:=q8 (zk2 H0.out hn ha)
    have hres:zn8 c.N t ts=if 0 < a then .no 4 t.pos else .ok (.mk 3 t.txt 0 []) ts:=by
      unfold zn8 zz9
      rw [hn,ha]
      by_cases h0:0 < a
      · have h1:¬a < 0:=by omega
        simp [h0,h1]
      · have h1:a=0:=by omega
        subst h1
        simp
    have HRES:=q8 hres
    clear h hk hn ha hres
    by_cases h0:0 < a
    · rw [HRES.out,if_pos h0]
      go_enter Tryz.func191,Tryz.ntmps191
      go_wp2_with fail
      refine HD.out.mono ?_
      rintro en w1 ⟨rfl,hx1⟩
      have hx2:q9 (fun _=>False) (w.alloc (.cells #[.int .i64 0,.string ⟨#[]⟩,.int .i64 0,.slice none 0 0] 115)) (w1.alloc (.cells #[.string t.txt,.int .i64 a] 142)):=hx1.alloc _
      have H2:=q8 (H0.out.new hx2)
      have HXa:=q8 hx2
      clear hx1 hx2
      go_wp2_with first
        | (go_at_call 110;refine (x6 _ H2.out).mono ?_;rintro en w2 ⟨rfl,hx2,hr2⟩
           have HX2:Hid (q9 (· = c.rb) (w.alloc (.cells #[.int .i64 0,.string ⟨#[]⟩,.int .i64 0,.slice none 0 0] 115)) w2):=(HXa.out.mono (fun _ _ f=>f.elim)).trans hx2
           have kb:w2.heap[w.heap.size]?=some (.cells #[.int .i64 0,.string ⟨#[]⟩,.int .i64 0,.slice none 0 0] 115):=(HX2.out.block _ (z8 (heap_alloc_new w _)) hrn).trans (heap_alloc_new w _)
           have z0:=z6 kb 0
           have z1:=z6 kb 1
           have z2:=z6 kb 2
           have z3:=z6 kb 3
           have y0:=Q0 kb 0
           have y1:=Q0 kb 1
           have y2:=Q0 kb 2
           have y3:=Q0 kb 3
           clear kb
           have HR2:=q8 hr2
           clear hx2 hr2)
      refine bodyPost_ret (v:=.tuple #[.agg #[.int .i64 0,.string ⟨#[]⟩,.int .i64 0,.slice none 0 0],.bool false]) (by simp [results,Tryz.results191,go_sem,z0,z1,z2,z3]) rfl ?_
      exact V6 HX0.out HX2.out HR2.out (Z5 _ _ _ _ _ _) hrb htb hsb HNV.out
    · rw [HRES.out,if_neg h0]
      go_enter Tryz.func191,Tryz.ntmps191
      go_wp2_with fail
      refine HD.out.mono ?_
      rintro en w1 ⟨rfl,hx1⟩
      have hx2:q9 (fun _=>False) (w.alloc (.cells #[.int .i64 0,.string ⟨#[]⟩,.int .i64 0,.slice none 0 0] 115)) (w1.alloc (.cells #[.string t.txt,.int .i64 a] 142)):=hx1.alloc _
      have H2:=q8 (H0.out.new hx2)
      have HXa:=q8 hx2
      have hsz1:=hx1.size
      have hsz2:w.heap.size < w1.heap.size:=by simp at hsz1;omega
      have hrb1:c.rb < w1.heap.size:=by omega
      clear hx1 hx2 hsz1
      go_wp2_with first
        | (go_at_call 109;refine (zp2 H2.out HNE.out).mono ?_;rintro en w2 ⟨rfl,hx2,hr2⟩
           have HX2:Hid (q9 (· = c.rb) (w.alloc (.cells #[.int .i64 0,.string ⟨#[]⟩,.int .i64 0,.slice none 0 0] 115)) w2):=(HXa.out.mono (fun _ _ f=>f.elim)).trans hx2
           have kb:w2.heap[w.heap.size]?=some (.cells #[.int .i64 0,.string ⟨#[]⟩,.int .i64 0,.slice none 0 0] 115):=(HX2.out.block _ (z8 (heap_alloc_new w _)) hrn).trans (heap_alloc_new w _)
           have z0:=z6 kb 0
           have z1:=z6 kb 1
           have z2:=z6 kb 2
           have z3:=z6 kb 3
           have y0:=Q0 kb 0
           have y1:=Q0 kb 1
           have y2:=Q0 kb 2
           have y3:=Q0 kb 3
           clear kb
           have kf:w2.heap[w1.heap.size]?=some (.cells #[.string t.txt,.int .i64 a] 142):=(hx2.block _ (z8 (heap_alloc_new w1 _)) (by show ¬w1.heap.size=c.rb;omega)).trans (heap_alloc_new w1 _)
           have q0:=z6 kf 0
           have HR2:=q8 hr2
           clear hx2 hr2 kf)
      refine bodyPost_ret (v:=.tuple #[.agg #[.int .i64 3,.string t.txt,.int .i64 0,.slice none 0 0],.bool true]) (by simp [results,Tryz.results191,go_sem,z0,z1,z2,z3]) rfl ?_
      exact zc8 HX0.out HX2.out HR2.out (PN.leaf 3 0 t.txt) (Z5 _ _ _ _ _ _) hrb htb hsb HNV.out
  · have hres:zn8 c.N t ts=.no (zb7 c.N t.txt.toList) t.pos:=by
      unfold zn8 zz9 zb7 at *
      cases hn:X4 t.txt.toList with
      | false=>rw [if_pos rfl,if_neg (by decide),if_pos rfl]
      | true =>
        rw [hn] at hk
        cases ha:za0 c.N t.txt.toList with
        | none=>simp
        | some a=>exfalso;apply hk;rw [ha];simp
    rw [hres]
    have HD:=q8 (zu0 H0.out hk)
    clear h hk hres
    go_enter Tryz.func191,Tryz.ntmps191
    go_wp2_with fail
    refine HD.out.mono ?_
    rintro en w1 ⟨rfl,hx1,hr1⟩
    have hsz:=hx1.size
    have hsz1:w.heap.size < w1.heap.size:=by simp at hsz;omega
    have HX2:Hid (q9 (· = c.rb) (w.alloc (.cells #[.int .i64 0,.string ⟨#[]⟩,.int .i64 0,.slice none 0 0] 115)) w1):=hx1
    have kb:w1.heap[w.heap.size]?=some (.cells #[.int .i64 0,.string ⟨#[]⟩,.int .i64 0,.slice none 0 0] 115):=(HX2.out.block _ (z8 (heap_alloc_new w _)) hrn).trans (heap_alloc_new w _)
    have z0:=z6 kb 0
    have z1:=z6 kb 1
    have z2:=z6 kb 2
    have z3:=z6 kb 3
    have y0:=Q0 kb 0
    have y1:=Q0 kb 1
    have y2:=Q0 kb 2
    have y3:=Q0 kb 3
    clear kb
    have HR2:=q8 hr1
    clear hx1 hr1 hsz
    go_wp2_with fail
    refine bodyPost_ret (v:=.tuple #[.agg #[.int .i64 0,.string ⟨#[]⟩,.int .i64 0,.slice none 0 0],.bool false]) (by simp [results,Tryz.results191,go_sem,z0,z1,z2,z3,hsz1]) rfl ?_
    exact V6 HX0.out HX2.out HR2.out ((Z5 _ _ _ _ _ _).alloc _) hrb htb hsb HNV.out
structure zv0 (w:World) (D:Nat->Prop) (pv:Value) (ps:List Nd) (kids:List (List Value)):Prop where
 how:w.ownsRow 0 115 4 pv ps.length kids.flatten
 hl:∀ cs∈kids,cs.length=4
 hn:kids.length=ps.length
 hD:∀ g,pv.ownBlock=some g->D g
 hk:∀ (i:Nat) (cs:List Value) (p:Nd),kids[i]?=some cs->ps[i]?=some p->PN w (fun q=>D q/\pv.ownBlock ≠ some q) cs p
def U5 (w:World) (c:W9) (d pl er:Int) (r:Rs (List Nd)) (en:Ending) (w':World):Prop :=
 q9 (· = c.rb) w w'/\(match r with
  | .ok ps ts'=>∃ (sa:Option Addr) (sn sc:Nat) (kids:List (List Value)),en=.returned (.tuple #[.slice sa sn sc,.bool true])/\zv0 w' (w.heap.size <= ·) (.slice sa sn sc) ps kids/\PR w' c ts' d pl er
  | .no e p=>en=.returned (.tuple #[.slice none 0 0,.bool false])/\∃ ts' d',PR w' c ts' d' p e)
theorem qJ2:(Tryz.prog.info? 115).map (fun i=>(i.zero,i.size,i.bytes))=some (some (.agg #[.int .i64 0,.string ByteArray.empty,.int .i64 0,.slice none 0 0]),4,56):=by kernel_rfl
theorem zP1 {w wr w1 wa:World} {c:W9} {pv v':Value} {ps:List Nd} {kids:List (List Value)} {cs:List Value} {nd:Nd} (hE:q9 (· = c.rb) w wr) (hrow:zv0 wr (w.heap.size <= ·) pv ps kids) (hx:q9 (· = c.rb) wr w1) (hn:PN w1 (wr.heap.size <= ·) cs nd) (hcs:cs.length=4) (O1 O2:Obj)
  (hown':wa.ownsRow 0 115 4 v' (ps.length+1) (kids.flatten++cs)) (hg:((w1.alloc O1).alloc O2).grownBy wa pv.ownBlock) (hat:v'.ownBlock=pv.ownBlock\/v'.ownBlock=some (w1.heap.size+1+1)) (hrb:c.rb < w.heap.size) :
  zv0 wa (w.heap.size <= ·) v' (ps++[nd]) (kids++[cs])/\q9 (fun k=>pv.ownBlock=some k) w1 wa/\(∃ g cap,v' = .slice (some ⟨g,0,none⟩) (ps.length+1) cap)/\(∀ k,pv.ownBlock=some k->w.heap.size<=k):=by
 have sz1:=hE.size
 have sz2:=hx.size
 have hpl:∀ g,pv.ownBlock=some g->g < wr.heap.size:=fun g hg=>(hrow.how.lt g hg).2
 have hlo:∀ k,pv.ownBlock=some k->w.heap.size<=k:=fun k hk=>hrow.hD k hk
 have hxa:q9 (fun k=>pv.ownBlock=some k) w1 wa:=(((q9.refl (fun k=>pv.ownBlock=some k) w1).alloc O1).alloc O2).grown hg (fun k hk _=>hk)
 have up:∀ (q:List Value) (p:Nd),PN w1 (fun q=>w.heap.size<=q/\pv.ownBlock ≠ some q/\v'.ownBlock ≠ some q) q p->PN wa (fun q=>w.heap.size<=q/\v'.ownBlock ≠ some q) q p:=by
  intro q p h4
  exact (h4.ext hxa (fun k _ hk e=>hk.2.1 e)).mono (fun k _ hk=>⟨hk.1,hk.2.2⟩)
 refine ⟨⟨?_,?_,?_,?_,?_⟩,hxa,?_,hlo⟩
 ·rw [List.flatten_append,List.length_append]
  simpa using hown'
 ·intro x hx2
  rcases List.mem_append.1 hx2 with h | h
  ·exact hrow.hl x h
  ·simp at h;rw [h];exact hcs
 ·simp [hrow.hn]
 ·intro g hg'
  rcases hat with e | e
  ·rw [e] at hg';exact hlo g hg'
  ·rw [e] at hg';injection hg' with e2;show w.heap.size<=g;omega
 ·intro i q p hq hp
  by_cases hi:i < ps.length
  ·rw [List.getElem?_append_left (by rw [hrow.hn];exact hi)] at hq
   rw [List.getElem?_append_left hi] at hp
   have h3:=hrow.hk i q p hq hp
   have h4:=h3.ext hx (fun k _ hk e=>by have h5:k=c.rb:=e;have h6:w.heap.size<=k:=hk.1;omega)
   refine up q p (h4.mono (fun k hk hD=>⟨hD.1,hD.2,?_⟩))
   intro e
   rcases hat with e2 | e2
   ·exact hD.2 (e2.symm.trans e)
   ·rw [e2] at e;injection e with e3;omega
  ·have hij:i=ps.length:=by
    have h1:=(List.getElem?_eq_some_iff.1 hp).1
    simp at h1
    omega
   subst hij
   rw [List.getElem?_append_right (by rw [hrow.hn];omega)] at hq
   rw [List.getElem?_append_right (by omega)] at hp
   simp [hrow.hn] at hq
   simp at hp
   subst hq
   subst hp
   refine up _ _ (hn.mono (fun k hk hD=>⟨?_,?_,?_⟩))
   ·have h6:wr.heap.size<=k:=hD;show w.heap.size<=k;omega
   ·intro e;have:=hpl k e;have h6:wr.heap.size<=k:=hD;omega
   ·intro e
    rcases hat with e2 | e2
    ·have:=hpl k (e2.symm.trans e);have h6:wr.heap.size<=k:=hD;omega
    ·rw [e2] at e;injection e with e3;omega
 ·rcases hown'.2 with ⟨_,e⟩ | ⟨g,cap,cur,hv,_⟩
  ·exact absurd e (by omega)
  ·exact ⟨g,cap,hv⟩
theorem zo5.mem {w:World} {tb:Nat}:∀ {ts:List Tk} {i:Nat},zo5 w tb i ts->TS ts
 | [],_,_=>fun _ h=>absurd h (by simp)
 | t :: ts,i,h=>fun u hu=>by
  rcases List.mem_cons.1 hu with rfl | hu
  ·exact h.2.2.2.1
  ·exact zo5.mem h.2.2.2.2 u hu
theorem PR.ts {w:World} {c:W9} {ts:List Tk} {d pl er:Int} (h:PR w c ts d pl er):TS ts:=by
 obtain ⟨o,cap,ht,hc,hb⟩:=h.here
 exact ht.mem
set_option maxRecDepth 100000 in
set_option maxHeartbeats 400000 in
theorem qa2 {w:World} {c:W9} {ts:List Tk} {d pl er:Int} (g cap:Nat) (fs:List (Nat × (List Tk->Rs Nd))) (h:PR w c ts d pl er) (hfs:fs.length<=600) (L:Nat) (hL:ts.length<=L) (hfit:∀ f∈fs,Fits f.2)
  (hg:g < w.heap.size) (hgr:¬g=c.rb) (hc:∀ i f,fs[i]?=some f->w.cell? ⟨g,i,none⟩=some (.func (.func f.1) #[.pointer (some ⟨c.rb,0,none⟩)] #[]))
  (hff:∀ f∈fs,f.1=72\/f.1=153\/f.1=186\/f.1=214)
  (hf:∀ f∈fs,∀ (w:World) (ts:List Tk),ts.length<=L->PR w c ts d pl er->Calls Tryz.prog f.1 #[.pointer (some ⟨c.rb,0,none⟩)] w (X5 w c d pl er (f.2 ts))) :
  Calls Tryz.prog 185 #[.pointer (some ⟨c.rb,0,none⟩),.slice (some ⟨g,0,none⟩) fs.length cap] w (U5 w c d pl er (J0 (fs.map (·.2)) ts)):=by
 obtain ⟨i0,hi,hz0,hz1,hz2⟩:=info_parts qJ2
 have HI:Hid (Tryz.prog.info? 115=some i0/\i0.zero=some (.agg #[.int .i64 0,.string ByteArray.empty,.int .i64 0,.slice none 0 0])/\i0.size=4/\i0.bytes=56):=⟨hi,hz0,hz1,hz2⟩
 clear hi hz0 hz1 hz2
 have H:=q8 h
 have HC:=q8 hc
 have HF:=q8 hf
 have HFF:=q8 hff
 have HFIT:=q8 hfit
 have HTS:=q8 h.ts
 have hrb:=h.rbs
 have htb:=h.tbs
 have hsb:=h.sbs
 have HNV:=q8 h.nvs
 clear h hc hf hff hfit
 go_enter Tryz.func185,Tryz.ntmps185
 go_wp2_with fail
 go_loopw [6,13] (fun out i wr=>∃ (j:Nat) (sa:Option Addr) (sc:Nat) (ps:List Nd) (us:List Tk) (kids:List (List Value)),i=.int .i64 j/\j<=fs.length/\out=.slice sa j sc/\q9 (· = c.rb) w wr/\zv0 wr (w.heap.size <= ·) (.slice sa j sc) ps kids/\PR wr c us d pl er/\J0 ((fs.take j).map (·.2)) ts=.ok ps us)
  (fun _ i _=>fs.length - (intOf i).toNat)
 case atStart=>exact ⟨0,none,0,[],ts,[],rfl,Nat.zero_le _,rfl,q9.refl _ _,⟨World.ownsRow_nil _ _ _ _,fun _ h=>absurd h (by simp),rfl,fun g hg=>absurd hg (by simp [Value.ownBlock]),fun _ _ _ h=>absurd h (by simp)⟩,H.out,rfl⟩
 case round =>
  obtain ⟨j,sa,sc,ps,us,kids,rfl,hj,rfl,hE,hrow,hpr,hrd⟩:=hrel
  have HE:=q8 hE
  have HROW:=q8 hrow
  have HPR:=q8 hpr
  have HRD:=q8 hrd
  clear hE hrow hpr hrd
  by_cases hlt:j < fs.length
  ·obtain ⟨f,hfj⟩:∃ f,fs[j]?=some f:=⟨_,List.getElem?_eq_getElem hlt⟩
   have e1:wr.cell? ⟨g,j,none⟩=some (.func (.func f.1) #[.pointer (some ⟨c.rb,0,none⟩)] #[]):=(HE.out.cell (p:=⟨g,j,none⟩) hg hgr).trans (HC.out j f hfj)
   have hus:us.length<=L:=by
    have h1:=qF2 _ (fun F hF=>by
     obtain ⟨x,hx,rfl⟩:=List.mem_map.1 hF
     exact HFIT.out x (List.mem_of_mem_take hx)) ts ps us HTS.out HRD.out
    omega
   have HCALL:=q8 (HF.out f (List.mem_of_getElem? hfj) wr us hus HPR.out)
   clear hus
   have HFJ:=q8 hfj
   clear hfj
   have hwhich:=HFF.out f (List.mem_of_getElem? HFJ.out)
   obtain ⟨fn,F⟩:=f
   have hsnoc:J0 ((fs.take (j+1)).map (·.2)) ts=match F us with | .no e p=>.no e p | .ok nd us'=>.ok (ps++[nd]) us':=by
    have e2:fs.take (j+1)=fs.take j++[(fn,F)]:=by
     obtain ⟨h1,h2⟩:=List.getElem?_eq_some_iff.1 HFJ.out
     rw [List.take_succ_eq_append_getElem h1,h2]
    rw [e2,List.map_append,qv9,HRD.out]
    simp only [List.map_cons,List.map_nil,J0]
    cases F us <;> simp
   have HSN:=q8 hsnoc
   clear hsnoc
   have HPL:Hid (ps.length=j):=by
    show _=_
    rw [row_len _ _ _ _ HRD.out,List.length_map,List.length_take];omega
   obtain ⟨hi,hz0,hz1,hz2⟩:=HI.out
   simp only at hwhich e1
   cases hFu:F us with
   | no e p =>
    have hres:J0 (fs.map (·.2)) ts=.no e p:=by
     have e3:fs=fs.take (j+1)++fs.drop (j+1):=(List.take_append_drop _ _).symm
     rw [e3,List.map_append,qv9,HSN.out,hFu]
    have HRES:=q8 hres
    have HCALL':Hid (Calls Tryz.prog fn #[.pointer (some ⟨c.rb,0,none⟩)] wr (X5 wr c d pl er (.no e p))):=by
     have:=HCALL.out;simp only [hFu] at this;exact this
    clear HCALL hFu HSN hres
    rcases hwhich with rfl | rfl | rfl | rfl
    all_goals
     go_wp2_with fail
     refine HCALL'.out.mono ?_
     rintro en w1 ⟨hx1,rfl,ts',d',hr1⟩
     have HX1:=q8 hx1
     have HR1:=q8 hr1
     clear hx1 hr1
     go_wp2_with fail
     go_ret2
     rw [HRES.out]
     exact ⟨(HE.out.trans HX1.out).alloc _,rfl,ts',d',HR1.out.new ((q9.refl _ w1).alloc _)⟩
   | ok nd us' =>
    have hsn2:J0 ((fs.take (j+1)).map (·.2)) ts=.ok (ps++[nd]) us':=by rw [HSN.out,hFu]
    have HSN2:=q8 hsn2
    have HCALL':Hid (Calls Tryz.prog fn #[.pointer (some ⟨c.rb,0,none⟩)] wr (X5 wr c d pl er (.ok nd us'))):=by
     have:=HCALL.out;simp only [hFu] at this;exact this
    clear HCALL hFu HSN hsn2
    rcases hwhich with rfl | rfl | rfl | rfl
    all_goals
     go_wp2_with fail
     refine HCALL'.out.mono ?_
     rintro en w1 ⟨hx1,k,wd,v,na,nn,nc,rfl,hn1,hr1⟩
     have HX1:=q8 hx1
     have HR1:=q8 hr1
     have HN1:=q8 hn1
     have HO1:=q8 (z7 HROW.out.how hx1 (fun q hq e=>by have h1:w.heap.size<=q:=HROW.out.hD q hq;have h2:q=c.rb:=e;omega))
     clear hx1 hr1 hn1
     go_wp2_with (at_builtin;refine wpList_append_own_at _ rfl _ _ 113 rfl 0 115 i0 (.agg #[.int .i64 0,.string ByteArray.empty,.int .i64 0,.slice none 0 0]) 4 56 Tryz.underlying113 hi hz0 hz1 hz2 rfl (by decide) _ _ _ rfl ((HO1.out.alloc _).alloc _) ⟨w1.heap.size+1,0,none⟩ 1 1 [.int .i64 k,.string wd,.int .i64 v,.slice na nn nc] rfl rfl ?c1 ?c2 ?c3 ?c4 ?c5 ?_)
     case c1 =>
      intro q u hq2
      match q,hq2 with
      | 0,hq2=>simp at hq2;subst hq2;simp [Addr.add]
      | 1,hq2=>simp at hq2;subst hq2;simp [Addr.add]
      | 2,hq2=>simp at hq2;subst hq2;simp [Addr.add]
      | 3,hq2=>simp at hq2;subst hq2;simp [Addr.add]
     case c2=>intro u hu;simp at hu;rcases hu with rfl | rfl | rfl | rfl <;> rfl
     case c3=>have:=HPL.out;unfold maxLen;omega
     case c4=>have:=HPL.out;omega
     case c5=>omega
     intro v' wa hown' hgrow _ hat
     obtain ⟨hrow',hxa,⟨g2,cap2,hv'⟩,hlo⟩:=zP1 HE.out HROW.out HX1.out HN1.out rfl _ _ hown' hgrow hat hrb
     have HROW2:=q8 hrow'
     have HE2:Hid (q9 (· = c.rb) w wa):=(HE.out.trans HX1.out).trans' hxa (fun i hi e=>by have:=hlo i e;omega)
     have HR2:=q8 (HR1.out.ext hxa (fun e=>by have:=hlo _ e;omega) (fun e=>by have:=hlo _ e;omega) (fun e=>by have:=hlo _ e;omega) (fun g hg e=>by have h1:=hlo _ e;have:=HNV.out g hg;omega) (fun e=>by have:=hlo _ e;omega))
     clear hown' hgrow hat hrow' hxa hlo
     subst hv'
     go_wp2_with fail
     go_roundw
     case measure=>simp [intOf];omega
     case rel=>exact ⟨j+1,some ⟨g2,0,none⟩,cap2,ps++[nd],us',kids++[[.int .i64 k,.string wd,.int .i64 v,.slice na nn nc]],by go_num,by omega,by rw [HPL.out],HE2.out,by have h1:=HROW2.out;rw [HPL.out] at h1;exact h1,HR2.out,HSN2.out⟩
  ·have hjn:fs.take j=fs:=List.take_of_length_le (by omega)
   have HRES:Hid (J0 (fs.map (·.2)) ts=.ok ps us):=by
    have:=HRD.out;rw [hjn] at this;exact this
   clear hjn
   go_wp2_with fail
   go_ret2
   rw [HRES.out]
   exact ⟨HE.out,sa,j,sc,kids,rfl,HROW.out,HPR.out⟩
def u64 (x:BitVec 64):Value:=.int .u64 x.toNat
def Ar.M3.val (s:M3):Value:=.agg #[u64 s.a,u64 s.b,u64 s.c]
def Ar.M3.cells (s:M3):Array Value:=#[u64 s.a,u64 s.b,u64 s.c]
theorem za1 (x:BitVec 64):BitVec.ofInt 64 (x.toNat:Int)=x:=by simp
theorem zl1 (x:BitVec 64):IntKind.wrap .u64 (x.toNat:Int)=(x.toNat:Int):=by
 have:=x.isLt
 simp only [IntKind.wrap,IntKind.signed,IntKind.bits]
 simp
 omega
theorem zF5 (x y:BitVec 64):bits .or .u64 (x.toNat:Int) (y.toNat:Int)=((x ||| y).toNat:Int):=by
 show IntKind.wrap .u64 ((BitVec.ofInt 64 (x.toNat:Int) ||| BitVec.ofInt 64 (y.toNat:Int)).toNat:Int)=_
 rw [za1,za1,zl1]
theorem zI9 (x y:BitVec 64):bits .and .u64 (x.toNat:Int) (y.toNat:Int)=((x &&& y).toNat:Int):=by
 show IntKind.wrap .u64 ((BitVec.ofInt 64 (x.toNat:Int) &&& BitVec.ofInt 64 (y.toNat:Int)).toNat:Int)=_
 rw [za1,za1,zl1]
theorem zx0 (x y:BitVec 64):bits .andNot .u64 (x.toNat:Int) (y.toNat:Int)=((x &&& ~~~y).toNat:Int):=by
 show IntKind.wrap .u64 ((BitVec.ofInt 64 (x.toNat:Int) &&& ~~~BitVec.ofInt 64 (y.toNat:Int)).toNat:Int)=_
 rw [za1,za1,zl1]
def mix (j:Nat) (s t:M3):M3:=⟨if 0 < j then s.a else t.a,if 1 < j then s.b else t.b,if 2 < j then s.c else t.c⟩
theorem zd1 (w:World) (b:Nat) (u v x:Value):q9 (fun k=>k=b) w (((w.setCell ⟨b,0,none⟩ u).setCell ⟨b,1,none⟩ v).setCell ⟨b,2,none⟩ x) :=
 (((q9.refl (fun k=>k=b) w).setCell (p:=⟨b,0,none⟩) (fun _=>rfl) _).setCell (p:=⟨b,1,none⟩) (fun _=>rfl) _).setCell (p:=⟨b,2,none⟩) (fun _=>rfl) _
theorem j8 {w:World} {k:Nat} (p:Addr) (v:Value) (h:¬k=p.block):(w.setCell p v).heap[k]?=w.heap[k]?:=by
 by_cases hk:k < w.heap.size
 ·exact ((q9.refl (fun j=>j=p.block) w).setCell (p:=p) (fun _=>rfl) v).block k hk h
 ·have hs:(w.setCell p v).heap.size=w.heap.size:=by simp
  rw [Array.getElem?_eq_none (by omega),Array.getElem?_eq_none (by omega)]
set_option maxHeartbeats 400000 in
theorem zg0 (s t:M3) (w:World):Calls Tryz.prog 139 #[s.val,t.val] w fun e w'=>e=.returned (s.or t).val/\q9 (fun _=>False) w w':=by
 simp only [M3.val]
 go_enter Tryz.func139,Tryz.ntmps139
 go_wp2_with fail
 go_loopw [6] (fun i wr=>∃ j:Nat,j<=3/\i=.int .i64 j/\q9 (fun _=>False) w wr/\wr.heap[w.heap.size]?=some (.cells (mix j (s.or t) s).cells 197)/\wr.heap[w.heap.size+1]?=some (.cells t.cells 197)/\wr.heap[w.heap.size+2]?=some (.cells M3.none.cells 197)) (fun i _=>3 - (intOf i).toNat)
 case atStart =>
  refine ⟨0,by omega,rfl,(((q9.refl _ w).alloc _).alloc _).alloc _,?_,?_,?_⟩
  ·rw [heap_alloc_old _ _ (by simp;omega),heap_alloc_old _ _ (by simp)];exact heap_alloc_new w _
  ·rw [heap_alloc_old _ _ (by simp)];exact heap_alloc2_new w _ _
  ·rw [show w.heap.size+2=(w.alloc (.cells #[u64 s.a,u64 s.b,u64 s.c] 197)).heap.size+1 by simp];exact heap_alloc2_new (w.alloc _) _ _
 case round =>
  obtain ⟨j,hj,rfl,hx,k0,k1,k2⟩:=hrel
  have HX:=q8 hx
  have K0:=q8 k0
  have K1:=q8 k1
  have K2:=q8 k2
  by_cases hlt:j < 3
  ·have hc:j=0\/j=1\/j=2:=by omega
   clear hx hlt hj
   rcases hc with rfl | rfl | rfl
   ·have c0:=z6 k0 0
    have f0:=Q0 k0 0
    have d0:=z6 k1 0
    simp only [M3.cells,mix,u64] at c0 d0
    clear k0 k1 k2
    go_wp2_with fail
    go_region
    all_goals
     go_wp2_with fail
     go_roundw
     case measure=>simp [intOf]
     case rel =>
      rw [zF5]
      refine ⟨1,by omega,by go_num,(HX.out.trans' ((q9.refl (fun k=>k=w.heap.size) wr).setCell (p:=⟨w.heap.size,0,none⟩) (fun _=>rfl) _) (fun i hi e=>by have h1:i=w.heap.size:=e;omega)).drew,?_,?_,?_⟩
      ·exact Y0 K0.out 0 _
      ·exact (j8 _ _ (by show ¬w.heap.size+1=w.heap.size;omega)).trans K1.out
      ·exact (j8 _ _ (by show ¬w.heap.size+2=w.heap.size;omega)).trans K2.out
   ·have c0:=z6 k0 1
    have f0:=Q0 k0 1
    have d0:=z6 k1 1
    simp only [M3.cells,mix,u64] at c0 d0
    clear k0 k1 k2
    go_wp2_with fail
    go_region
    all_goals
     go_wp2_with fail
     go_roundw
     case measure=>simp [intOf]
     case rel =>
      rw [zF5]
      refine ⟨2,by omega,by go_num,(HX.out.trans' ((q9.refl (fun k=>k=w.heap.size) wr).setCell (p:=⟨w.heap.size,1,none⟩) (fun _=>rfl) _) (fun i hi e=>by have h1:i=w.heap.size:=e;omega)).drew,?_,?_,?_⟩
      ·exact Y0 K0.out 1 _
      ·exact (j8 _ _ (by show ¬w.heap.size+1=w.heap.size;omega)).trans K1.out
      ·exact (j8 _ _ (by show ¬w.heap.size+2=w.heap.size;omega)).trans K2.out
   ·have c0:=z6 k0 2
    have f0:=Q0 k0 2
    have d0:=z6 k1 2
    simp only [M3.cells,mix,u64] at c0 d0
    clear k0 k1 k2
    go_wp2_with fail
    go_region
    all_goals
     go_wp2_with fail
     go_roundw
     case measure=>simp [intOf]
     case rel =>
      rw [zF5]
      refine ⟨3,by omega,by go_num,(HX.out.trans' ((q9.refl (fun k=>k=w.heap.size) wr).setCell (p:=⟨w.heap.size,2,none⟩) (fun _=>rfl) _) (fun i hi e=>by have h1:i=w.heap.size:=e;omega)).drew,?_,?_,?_⟩
      ·exact Y0 K0.out 2 _
      ·exact (j8 _ _ (by show ¬w.heap.size+1=w.heap.size;omega)).trans K1.out
      ·exact (j8 _ _ (by show ¬w.heap.size+2=w.heap.size;omega)).trans K2.out
  ·have hj3:j=3:=by omega
   subst hj3
   clear hx hlt hj
   have c0:wr.cell? ⟨w.heap.size,0,none⟩=some (.int .u64 (s.or t).a.toNat):=z6 k0 0
   have c1:wr.cell? ⟨w.heap.size,1,none⟩=some (.int .u64 (s.or t).b.toNat):=z6 k0 1
   have c2:wr.cell? ⟨w.heap.size,2,none⟩=some (.int .u64 (s.or t).c.toNat):=z6 k0 2
   have z0:wr.cell? ⟨w.heap.size+2,0,none⟩=some (.int .u64 0):=z6 k2 0
   have z1:wr.cell? ⟨w.heap.size+2,1,none⟩=some (.int .u64 0):=z6 k2 1
   have z2:wr.cell? ⟨w.heap.size+2,2,none⟩=some (.int .u64 0):=z6 k2 2
   have y0:=Q0 k2 0
   have y1:=Q0 k2 1
   have y2:=Q0 k2 2
   clear k0 k1 k2
   go_wp2_with fail
   refine bodyPost_ret (v:=.agg #[.int .u64 (s.or t).a.toNat,.int .u64 (s.or t).b.toNat,.int .u64 (s.or t).c.toNat]) (by simp [results,Tryz.results139,go_sem,z0,z1,z2]) rfl ⟨rfl,?_⟩
   exact HX.out.trans' (zd1 _ _ _ _ _) (fun i hi e=>by have h1:i=w.heap.size+2:=e;omega)
set_option maxHeartbeats 400000 in
theorem qc2 (s t:M3) (w:World):Calls Tryz.prog 183 #[s.val,t.val] w fun e w'=>e=.returned (s.sub t).val/\q9 (fun _=>False) w w':=by
 simp only [M3.val]
 go_enter Tryz.func183,Tryz.ntmps183
 go_wp2_with fail
 go_loopw [6] (fun i wr=>∃ j:Nat,j<=3/\i=.int .i64 j/\q9 (fun _=>False) w wr/\wr.heap[w.heap.size]?=some (.cells (mix j (s.sub t) s).cells 197)/\wr.heap[w.heap.size+1]?=some (.cells t.cells 197)/\wr.heap[w.heap.size+2]?=some (.cells M3.none.cells 197)) (fun i _=>3 - (intOf i).toNat)
 case atStart =>
  refine ⟨0,by omega,rfl,(((q9.refl _ w).alloc _).alloc _).alloc _,?_,?_,?_⟩
  ·rw [heap_alloc_old _ _ (by simp;omega),heap_alloc_old _ _ (by simp)];exact heap_alloc_new w _
  ·rw [heap_alloc_old _ _ (by simp)];exact heap_alloc2_new w _ _
  ·rw [show w.heap.size+2=(w.alloc (.cells #[u64 s.a,u64 s.b,u64 s.c] 197)).heap.size+1 by simp];exact heap_alloc2_new (w.alloc _) _ _
 case round =>
  obtain ⟨j,hj,rfl,hx,k0,k1,k2⟩:=hrel
  have HX:=q8 hx
  have K0:=q8 k0
  have K1:=q8 k1
  have K2:=q8 k2
  by_cases hlt:j < 3
  ·have hc:j=0\/j=1\/j=2:=by omega
   clear hx hlt hj
   rcases hc with rfl | rfl | rfl
   ·have c0:=z6 k0 0
    have f0:=Q0 k0 0
    have d0:=z6 k1 0
    simp only [M3.cells,mix,u64] at c0 d0
    clear k0 k1 k2
    go_wp2_with fail
    go_region
    all_goals
     go_wp2_with fail
     go_roundw
     case measure=>simp [intOf]
     case rel =>
      rw [zx0]
      refine ⟨1,by omega,by go_num,(HX.out.trans' ((q9.refl (fun k=>k=w.heap.size) wr).setCell (p:=⟨w.heap.size,0,none⟩) (fun _=>rfl) _) (fun i hi e=>by have h1:i=w.heap.size:=e;omega)).drew,?_,?_,?_⟩
      ·exact Y0 K0.out 0 _
      ·exact (j8 _ _ (by show ¬w.heap.size+1=w.heap.size;omega)).trans K1.out
      ·exact (j8 _ _ (by show ¬w.heap.size+2=w.heap.size;omega)).trans K2.out
   ·have c0:=z6 k0 1
    have f0:=Q0 k0 1
    have d0:=z6 k1 1
    simp only [M3.cells,mix,u64] at c0 d0
    clear k0 k1 k2
    go_wp2_with fail
    go_region
    all_goals
     go_wp2_with fail
     go_roundw
     case measure=>simp [intOf]
     case rel =>
      rw [zx0]
      refine ⟨2,by omega,by go_num,(HX.out.trans' ((q9.refl (fun k=>k=w.heap.size) wr).setCell (p:=⟨w.heap.size,1,none⟩) (fun _=>rfl) _) (fun i hi e=>by have h1:i=w.heap.size:=e;omega)).drew,?_,?_,?_⟩
      ·exact Y0 K0.out 1 _
      ·exact (j8 _ _ (by show ¬w.heap.size+1=w.heap.size;omega)).trans K1.out
      ·exact (j8 _ _ (by show ¬w.heap.size+2=w.heap.size;omega)).trans K2.out
   ·have c0:=z6 k0 2
    have f0:=Q0 k0 2
    have d0:=z6 k1 2
    simp only [M3.cells,mix,u64] at c0 d0
    clear k0 k1 k2
    go_wp2_with fail
    go_region
    all_goals
     go_wp2_with fail
     go_roundw
     case measure=>simp [intOf]
     case rel =>
      rw [zx0]
      refine ⟨3,by omega,by go_num,(HX.out.trans' ((q9.refl (fun k=>k=w.heap.size) wr).setCell (p:=⟨w.heap.size,2,none⟩) (fun _=>rfl) _) (fun i hi e=>by have h1:i=w.heap.size:=e;omega)).drew,?_,?_,?_⟩
      ·exact Y0 K0.out 2 _
      ·exact (j8 _ _ (by show ¬w.heap.size+1=w.heap.size;omega)).trans K1.out
      ·exact (j8 _ _ (by show ¬w.heap.size+2=w.heap.size;omega)).trans K2.out
  ·have hj3:j=3:=by omega
   subst hj3
   clear hx hlt hj
   have c0:wr.cell? ⟨w.heap.size,0,none⟩=some (.int .u64 (s.sub t).a.toNat):=z6 k0 0
   have c1:wr.cell? ⟨w.heap.size,1,none⟩=some (.int .u64 (s.sub t).b.toNat):=z6 k0 1
   have c2:wr.cell? ⟨w.heap.size,2,none⟩=some (.int .u64 (s.sub t).c.toNat):=z6 k0 2
   have z0:wr.cell? ⟨w.heap.size+2,0,none⟩=some (.int .u64 0):=z6 k2 0
   have z1:wr.cell? ⟨w.heap.size+2,1,none⟩=some (.int .u64 0):=z6 k2 1
   have z2:wr.cell? ⟨w.heap.size+2,2,none⟩=some (.int .u64 0):=z6 k2 2
   have y0:=Q0 k2 0
   have y1:=Q0 k2 1
   have y2:=Q0 k2 2
   clear k0 k1 k2
   go_wp2_with fail
   refine bodyPost_ret (v:=.agg #[.int .u64 (s.sub t).a.toNat,.int .u64 (s.sub t).b.toNat,.int .u64 (s.sub t).c.toNat]) (by simp [results,Tryz.results183,go_sem,z0,z1,z2]) rfl ⟨rfl,?_⟩
   exact HX.out.trans' (zd1 _ _ _ _ _) (fun i hi e=>by have h1:i=w.heap.size+2:=e;omega)
end Go.Proofs.YtegbdaffhpiacaaGreatDoor
